/-
  Part of the proof of MendTouches.
-/
import Derived.Test.YtkdhdibjbabgfaaGreatDoorVt1
import Derived.Test.YtkdhdibjbabgfaaGreatDoorRows
import Derived.BigQuiet
import Derived.Carry
import Derived.ChangeSlices
import Derived.Deep.QuietTactic
import Derived.Deep.RegionHeld3
import Derived.Deep.SlicePairs
import Derived.Maps.AppendAt
import Derived.OwnWalk
import Derived.WalkLawsBesides
import Derived.WalkSpells
import Derived.OwnWalkIn
import Derived.StillTail
import Derived.Handy
import Derived.RangeFuncBound
import Derived.RangeFuncBox
import Derived.RangeFuncCalls
import Derived.RangeFuncFrom
import Derived.RangeFuncLeaves
import Derived.RangeFuncNested
import Derived.RangeFuncWrites
import Derived.Test.YtkdhdibjbabgfaaGreatDoorVt0
set_option maxRecDepth 10000
set_option maxHeartbeats 800000
set_option linter.unusedVariables false
set_option linter.unusedSimpArgs false
section
namespace Go.Proofs.YtkdhdibjbabgfaaGreatDoor
open Go.RowKit Go.ChangeShapes Go.WideShapes Go.Deep
section
variable {α : Type}
theorem fm_len {sz : Nat} {en : α → List Value} (hen : ∀ x, (en x).length = sz) (l : List α) : (l.flatMap en).length = l.length * sz := by
 induction l with
 | nil => simp
 | cons x l ih => rw [List.flatMap_cons, List.length_append, ih, hen, List.length_cons, Nat.add_mul, Nat.one_mul, Nat.add_comm]
def OwnE (e : TypeId) (sz : Nat) (en : α → List Value) (w : World) (base : Nat) (v : Value) (l : List α) : Prop := w.ownsRow base e sz v l.length (l.flatMap en)
theorem OwnE.keep {e : TypeId} {sz : Nat} {en : α → List Value} {w w1 : World} {base : Nat} {v : Value} {l : List α} (h : OwnE e sz en w base v l) (hb : Below w.heap.size w w1) : OwnE e sz en w1 base v l := by
 refine ⟨h.1, ?_⟩
 rcases h.2 with h2 | ⟨g, cap, cur, hv, hbg, hg, h1, h2, h3, h4⟩
 ·exact .inl h2
 ·exact .inr ⟨g, cap, cur, hv, hbg, by rw [hb.block g (Array.getElem?_eq_some_iff.1 hg).1]; exact hg, h1, h2, h3, h4⟩
theorem OwnE.mono {e : TypeId} {sz : Nat} {en : α → List Value} {w : World} {base b2 : Nat} {v : Value} {l : List α} (h : OwnE e sz en w base v l) (hb : b2 ≤ base) : OwnE e sz en w b2 v l := by
 refine ⟨h.1, ?_⟩
 rcases h.2 with h2 | ⟨g, cap, cur, hv, hbg, hg, h1, h2, h3, h4⟩
 ·exact .inl h2
 ·exact .inr ⟨g, cap, cur, hv, by omega, hg, h1, h2, h3, h4⟩
theorem OwnE.nil (e : TypeId) (sz : Nat) (en : α → List Value) (w : World) (base : Nat) : OwnE e sz en w base (.slice none 0 0) [] := World.ownsRow_nil _ _ _ _
theorem OwnE.lt {e : TypeId} {sz : Nat} {en : α → List Value} {w : World} {base : Nat} {v : Value} {l : List α} (h : OwnE e sz en w base v l) : ∀ k, v.ownBlock = some k → base ≤ k ∧ k < w.heap.size := World.ownsRow.lt h
theorem OwnE.kept {e : TypeId} {sz : Nat} {en : α → List Value} {w w1 : World} {base : Nat} {v : Value} {l : List α} {row : Option Nat} (h : OwnE e sz en w base v l) (hg : w.grownBy w1 row) (hne : v.ownBlock = none ∨ v.ownBlock ≠ row) : OwnE e sz en w1 base v l := World.ownsRow.kept h hg hne
theorem OwnE.drew {e : TypeId} {sz : Nat} {en : α → List Value} {w : World} {base : Nat} {v : Value} {l : List α} (h : OwnE e sz en w base v l) : OwnE e sz en w.drew base v l := h
theorem OwnE.alloc {e : TypeId} {sz : Nat} {en : α → List Value} {w : World} {base : Nat} {v : Value} {l : List α} (h : OwnE e sz en w base v l) (o : Obj) : OwnE e sz en (w.alloc o) base v l := h.keep (bZ _ _)
theorem OwnE.form {e : TypeId} {sz : Nat} {en : α → List Value} {w : World} {base : Nat} {v : Value} {l : List α} (h : OwnE e sz en w base v l) (hp : 0 < l.length) : ∃ g cap, v = .slice (some ⟨g, 0, none⟩) l.length cap ∧ base ≤ g ∧ g < w.heap.size ∧ l.length ≤ cap := by
 rcases h.2 with ⟨_, hn⟩ | ⟨g, cap, cur, hv, hb, hg, h1, _⟩
 ·omega
 ·exact ⟨g, cap, hv, hb, (Array.getElem?_eq_some_iff.1 hg).1, h1⟩
theorem OwnE.lit (e : TypeId) {sz : Nat} {en : α → List Value} (hen : ∀ x, (en x).length = sz) (w : World) (l : List α) (cs : Array Value) (hcs : cs = (l.flatMap en).toArray) (hl : l.length ≤ 100000) : OwnE e sz en (w.alloc (.cells cs e)) w.heap.size (.slice (some ⟨w.heap.size, 0, none⟩) l.length l.length) l := by
 subst hcs
 refine ⟨fm_len hen l, .inr ⟨w.heap.size, _, _, rfl, Nat.le_refl _, heap_alloc_new w _, Nat.le_refl _, by unfold maxLen; omega, ?_, ?_⟩⟩
 ·rw [List.size_toArray, fm_len hen]
 ·simp only [List.toList_toArray]; rw [← fm_len hen l, List.take_length]
structure ElT (P : Program) (S e : TypeId) (sz by_ : Nat) (en : α → List Value) : Prop where
 und : P.underlying S = some (.slice e)
 info : ∃ i0 z, P.info? e = some i0 ∧ i0.zero = some z ∧ i0.size = sz ∧ i0.bytes = by_ ∧ z.cells.size = sz
 len : ∀ x, (en x).length = sz
 one : ∀ x, ∀ u ∈ en x, u.oneCell' = true
 pos : 0 < sz
 small : by_ ≤ 1000
theorem grown_below {w w1 : World} {base : Nat} {v : Value} (hg : w.grownBy w1 v.ownBlock) (hb : base ≤ w.heap.size) (hl : ∀ k, v.ownBlock = some k → base ≤ k) : Below base w w1 := (Below.refl base w).grown hg hb hl
theorem spot_none {W : World} {a : Addr} {v : Value} (h : W.cell? a = some v) : a.spot = none := by
 unfold World.cell? at h
 split at h
 ·split at h
  ·simp at h
  ·rename_i hs
   simpa using hs
 ·simp at h
end
section
variable {α : Type} [Inhabited α]
def EL (sz : Nat) (en : α → List Value) (w : World) (v : Value) (l : List α) : Prop :=
 ∃ A cap, v = .slice A l.length cap ∧ (0 < l.length → ∃ g off, A = some ⟨g, off, none⟩ ∧ g < w.heap.size ∧ l.length ≤ cap ∧ ∀ i, i < l.length → ∀ j, j < sz → w.cell? ⟨g, off + i * sz + j, none⟩ = (en (l.getD i default))[j]?)
theorem EL.keep {sz : Nat} {en : α → List Value} {w w1 : World} {v : Value} {l : List α} (h : EL sz en w v l) (hb : Below w.heap.size w w1) : EL sz en w1 v l := by
 obtain ⟨A, cap, hv, h⟩ := h
 refine ⟨A, cap, hv, fun hl => ?_⟩
 obtain ⟨g, off, hA, hg, hc, hi⟩ := h hl
 exact ⟨g, off, hA, Nat.lt_of_lt_of_le hg hb.size, hc, fun i h j hj => by rw [(bcell hb).1 _ _ hg]; exact hi i h j hj⟩
theorem EL.nil (sz : Nat) (en : α → List Value) (w : World) (A : Option Addr) (cap : Nat) : EL sz en w (.slice A 0 cap) [] := ⟨A, cap, rfl, fun h => by simp at h⟩
theorem EL.form {sz : Nat} {en : α → List Value} {w : World} {v : Value} {l : List α} {n : Nat} (h : EL sz en w v l) (hn : l.length = n) : ∃ A cap, v = .slice A n cap ∧
 ∀ w1 i, Below w.heap.size w w1 → i < n → ∃ g off, A = some ⟨g, off, none⟩ ∧ n ≤ cap ∧ g < w.heap.size ∧ g < w1.heap.size ∧ ∀ j, j < sz → w1.cell? ⟨g, off + i * sz + j, none⟩ = (en (l.getD i default))[j]? := by
 obtain ⟨A, cap, hv, h⟩ := h
 refine ⟨A, cap, by rw [hv, hn], fun w1 i hb hi => ?_⟩
 obtain ⟨g, off, hA, hg, hc, hcell⟩ := h (by omega)
 refine ⟨g, off, hA, by omega, hg, Nat.lt_of_lt_of_le hg hb.size, fun j hj => ?_⟩
 rw [(bcell hb).1 _ _ hg]; exact hcell i (by omega) j hj
theorem fm_at {sz : Nat} {en : α → List Value} (hen : ∀ x, (en x).length = sz) : ∀ (l : List α) (i j : Nat), i < l.length → j < sz → (l.flatMap en)[i * sz + j]? = (en (l.getD i default))[j]?
 | [], i, j, hi, _ => by simp at hi
 | x :: l, 0, j, _, hj => by
   rw [List.flatMap_cons, Nat.zero_mul, Nat.zero_add, List.getElem?_append_left (by rw [hen]; exact hj)]; rfl
 | x :: l, i + 1, j, hi, hj => by
   rw [List.flatMap_cons, List.getElem?_append_right (by rw [hen, Nat.add_mul]; omega), hen]
   rw [show (i + 1) * sz + j - sz = i * sz + j by rw [Nat.add_mul]; omega]
   rw [fm_at hen l i j (by simpa using hi) hj]; rfl
theorem fm_set {sz : Nat} {en : α → List Value} (hen : ∀ x, (en x).length = sz) {x' : α} {u : Value} : ∀ (l : List α) (i j : Nat), i < l.length → j < sz → en x' = (en (l.getD i default)).set j u → (l.flatMap en).set (i * sz + j) u = (l.set i x').flatMap en
 | [], i, j, hi, _, _ => by simp at hi
 | x :: l, 0, j, _, hj, he => by
   rw [List.flatMap_cons, Nat.zero_mul, Nat.zero_add, List.set_append_left _ _ (by rw [hen]; exact hj), List.set_cons_zero, List.flatMap_cons, he]; rfl
 | x :: l, i + 1, j, hi, hj, he => by
   rw [List.flatMap_cons, List.set_append_right _ _ (by rw [hen, Nat.add_mul]; omega), hen, List.set_cons_succ, List.flatMap_cons]
   rw [show (i + 1) * sz + j - sz = i * sz + j by rw [Nat.add_mul]; omega]
   rw [fm_set hen l i j (by simpa using hi) hj he]
theorem OwnE.el {e : TypeId} {sz : Nat} {en : α → List Value} (hen : ∀ x, (en x).length = sz) {w : World} {base : Nat} {v : Value} {l : List α} (h : OwnE e sz en w base v l) : EL sz en w v l := by
 have h' := h
 rcases h.2 with ⟨hv, hn⟩ | ⟨g, cap, cur, hv, hb, hg, h1, h2, h3, h4⟩
 ·have : l = [] := by simpa using hn
  subst this
  exact ⟨none, 0, hv, fun h => by simp at h⟩
 ·subst hv
  refine ⟨some ⟨g, 0, none⟩, cap, rfl, fun _ => ⟨g, 0, rfl, (Array.getElem?_eq_some_iff.1 hg).1, h1, fun i hi j hj => ?_⟩⟩
  rw [Nat.zero_add]
  have hlt : i * sz + j < l.length * sz := by
   have : i * sz + sz ≤ l.length * sz := by rw [← Nat.succ_mul]; exact Nat.mul_le_mul_right _ hi
   omega
  rw [World.ownsRow.cellAt h' _ hlt, fm_at hen l i j hi hj]
theorem OwnE.set {e : TypeId} {sz : Nat} {en : α → List Value} (hen : ∀ x, (en x).length = sz) {w : World} {base g n cap i j : Nat} {l : List α} {x' : α} {u : Value} (h : OwnE e sz en w base (.slice (some ⟨g, 0, none⟩) n cap) l) (hn : l.length = n) (hi : i < n) (hj : j < sz) (he : en x' = (en (l.getD i default)).set j u) :
 OwnE e sz en (w.setCell ⟨g, i * sz + j, none⟩ u) base (.slice (some ⟨g, 0, none⟩) n cap) (l.set i x') := by
 unfold OwnE at h ⊢
 rw [hn] at h
 rw [List.length_set, hn, ← fm_set hen l i j (by omega) hj he]
 exact (World.ownsRow.stored h _ u).1
theorem OwnE.cell {e : TypeId} {sz : Nat} {en : α → List Value} (hen : ∀ x, (en x).length = sz) {w : World} {base g n cap : Nat} {l : List α} (h : OwnE e sz en w base (.slice (some ⟨g, 0, none⟩) n cap) l) (hn : l.length = n) {i j : Nat} (hi : i < n) (hj : j < sz) :
 w.cell? ⟨g, i * sz + j, none⟩ = (en (l.getD i default))[j]? ∧ w.frozen? ⟨g, i * sz + j, none⟩ = false := by
 unfold OwnE at h
 rw [hn] at h
 have hlt : i * sz + j < n * sz := by
  have : i * sz + sz ≤ n * sz := by rw [← Nat.succ_mul]; exact Nat.mul_le_mul_right _ hi
  omega
 exact ⟨by rw [World.ownsRow.cellAt h _ hlt, fm_at hen l i j (by omega) hj], h.frozenAt _⟩
theorem appE {P : Program} {S e : TypeId} {sz by_ : Nat} {en : α → List Value} (T : ElT P S e sz by_ en) {w : World} {base : Nat} {v u : Value} {l m : List α} (hown : OwnE e sz en w base v l) (ha : EL sz en w u m) (hb : base ≤ w.heap.size) (hsm : l.length ≤ 1000000) (hsm2 : m.length ≤ 1000000) :
 ∃ v' w', (Builtin.append_ #[S, S] S #[v, u]).run P w = .ok v' w' ∧ OwnE e sz en w' base v' (l ++ m) ∧ w.grownBy w' v.ownBlock ∧ (v'.ownBlock = v.ownBlock ∨ v'.ownBlock = some w.heap.size) ∧ (m ≠ [] → v' ≠ .slice none 0 0) := by
 obtain ⟨i0, z, hi, hz0, hz1, hz2, hz3⟩ := T.info
 have ht := T.und
 obtain ⟨A, cap, rfl, h⟩ := ha
 cases m with
 | nil =>
   refine ⟨v, w, ?_, by simpa using hown, ⟨rfl, rfl, rfl, Nat.le_refl _, fun _ _ _ => rfl⟩, .inl rfl, fun h => absurd rfl h⟩
   rcases hown.2 with ⟨rfl, _⟩ | ⟨g, cap', cur, rfl, _, _, hnc, _⟩
   ·cases A <;> simp [Builtin.append_, run_underlying ht, sizeOf, typeInfo, hi, Builtin.lenOf, Builtin.firstCells, loadCells, loadCellsFrom, storeCells]
   ·cases A <;> simp [Builtin.append_, run_underlying ht, sizeOf, typeInfo, hi, Builtin.lenOf, Builtin.firstCells, hnc, loadCells, loadCellsFrom, storeCells]
 | cons x m =>
   obtain ⟨g, off, rfl, hg, hc, hcell⟩ := h (by simp)
   have hby := T.small
   obtain ⟨v', w', hrun, k1, k2, k3, k4⟩ := run_append_own_at (P := P) w base S S e i0 z sz by_ ht hi hz0 hz1 hz2 hz3 T.pos v l.length _ hown ⟨g, off, none⟩ (x :: m).length cap ((x :: m).flatMap en) (fm_len T.len _)
    (fun j u hj => by
      have hj2 : j < (x :: m).length * sz := by rw [← fm_len T.len]; exact (List.getElem?_eq_some_iff.1 hj).1
      have hp := T.pos
      have hd : j / sz < (x :: m).length := (Nat.div_lt_iff_lt_mul hp).2 hj2
      have hm := Nat.mod_lt j hp
      have e1 : j / sz * sz + j % sz = j := by rw [Nat.mul_comm]; exact Nat.div_add_mod j sz
      have c0 := hcell (j / sz) hd (j % sz) hm
      have q0 := fm_at T.len (x :: m) (j / sz) (j % sz) hd hm
      rw [e1, hj] at q0
      rw [← q0, Nat.add_assoc, e1] at c0
      rw [add_plain]; exact c0) (by intro u hu; obtain ⟨y, _, hy⟩ := List.mem_flatMap.1 hu; exact T.one y u hy) (by unfold maxLen; omega) (by
       have : (l.length + (x :: m).length) * by_ ≤ 2000000 * 1000 := Nat.mul_le_mul (by omega) hby
       omega) hb
   refine ⟨v', w', hrun, ?_, k2, k4, fun _ h => by have := (k3.1 h).2; simp at this⟩
   unfold OwnE
   rw [List.length_append, List.flatMap_append]
   exact k1
theorem els_open {H : Type} {enc : TypeId × Value → H} {P : Program} {W : World} {t e : TypeId} {sz : Nat} {en : α → List Value} {Ok : α → Prop} (ht : P.underlying t = some (.slice e)) (hc : P.cellsOf e = sz) (hp : 0 < sz)
 (hel : ∀ fuel cs x, cs.length = sz → DataW.trod enc P W 0 (fun _ => true) true fuel e cs = some x → ∃ a : α, Ok a ∧ cs = en a)
 {ad : Option Addr} {len cap : Nat} {d : DataW H} {p : List MemPlace}
 (h : DataW.Trod enc P W 0 (fun _ => true) true t (.slice ad len cap) d p) : ∃ l : List α, (l.length ≤ 9223372036854775807 ∧ ∀ x ∈ l, Ok x) ∧ EL sz en W (.slice ad len cap) l := by
 obtain ⟨fuel, hf⟩ := h
 rcases open_slice ht hf with ⟨hcs, _⟩ | ⟨a, len', cap', m, n, D, Pl, hcs, hb, hl, hmx, hmm, _, hx⟩
 ·simp [Value.cells] at hcs
  obtain ⟨rfl, rfl, rfl⟩ := hcs
  exact ⟨[], ⟨by simp, fun x hx => by simp at hx⟩, EL.nil _ _ _ _ _⟩
 ·simp [Value.cells] at hcs
  obtain ⟨rfl, rfl, rfl⟩ := hcs
  simp only [if_true] at hmm
  subst hmm
  have hex : ∀ i, i < len → ∃ q : α, Ok q ∧ ∀ j, j < sz → W.cell? (a.add (i * sz + j)) = (en q)[j]? := fun i hil => by
   obtain ⟨cs', h1, h2⟩ := hx i (by omega)
   rw [hc] at h1
   obtain ⟨_, hlen, hcell⟩ := World.cells?_some h1
   obtain ⟨q, ho, rfl⟩ := hel _ _ _ hlen h2
   refine ⟨q, ho, fun j hj => ?_⟩
   have := hcell j hj
   rw [add_add] at this
   rw [this]
  obtain ⟨q, hq⟩ := choose_lt hex
  have hlen : ((List.range len).map q).length = len := by simp
  refine ⟨(List.range len).map q, ⟨by rw [hlen]; unfold maxLen at hmx; omega, fun x hx => ?_⟩, some a, _, by rw [hlen], fun h0 => ?_⟩
  ·obtain ⟨i, hi', rfl⟩ := List.mem_map.1 hx
   exact (hq i (List.mem_range.1 hi')).1
  ·rw [hlen] at h0 ⊢
   obtain ⟨cs0, h01, h02⟩ := hx 0 (by omega)
   rw [hc] at h01
   obtain ⟨_, hl0, hc0⟩ := World.cells?_some h01
   have hc00 := hc0 0 hp
   rw [List.getElem?_eq_getElem (by omega)] at hc00
   have hsp : a.spot = none := by
    have := spot_none hc00
    unfold Addr.add at this
    simpa using this
   obtain ⟨g, off, sp⟩ := a
   simp only at hsp
   subst hsp
   refine ⟨g, off, rfl, ?_, by omega, fun i hil j hj => ?_⟩
   ·have := World.block_lt_of_cell? _ _ hc00
    simpa [add_plain] using this
   ·have e : ((List.range len).map q).getD i default = q i := by
     rw [List.getD_eq_getElem?_getD, List.getElem?_map, List.getElem?_range hil]
     rfl
    rw [e, ← (hq i hil).2 j hj, add_plain, Nat.add_assoc]
end
theorem wpList_append_run {P : Program} {w w' : World} {ops : Array Oper} {rest : List Oper} {o : Oper} {a : Act} {Q : Exit → Act → World → Prop} (hg : o.guard = none) (s x : Operand) (t : TypeId)
 (hop : o.op = Op.call { callee := Callee.builtin Builtin.append, args := #[s, x], argTypes := #[t, t] }) (vs vx v : Value) (hs : a.eval s = vs) (hx : a.eval x = vx)
 (hrun : (Builtin.append_ #[t, t] o.type #[vs, vx]).run P w = .ok v w') (h : wpList P ops Q rest (a.put o.dst v) w') : wpList P ops Q (o :: rest) a w := by
 refine wpList_plain hg fun K hK => ?_
 unfold Oper.wp
 simp [execOp, hop, resolve, invoke, builtin, hs, hx, hrun, Result.andThen]
 exact hK _ _ h
end Go.Proofs.YtkdhdibjbabgfaaGreatDoor
end
section
namespace Go.Proofs.YtkdhdibjbabgfaaGreatDoor
section
variable {P : Program} {L : List Oper} {Q : Exit → Act → World → Prop} {md : Region.Mode} {S : World → Prop}
theorem takeL (i : Nat) {o : Oper} {v : Value} {fuel : Nat} {listed : Array Bool} {a : Act} {w : World} (hi : L[i]? = some o)
 (hs : Region.noSelect L.toArray = true) (hf : Region.free md L.toArray listed i = true) (hr : (Region.ready md L.toArray listed).contains i = true)
 (hQ : ∀ c a w, Q (.panic c) (a.put o.dst v) w → Q (.panic c) a w) (hw : Region.wanted o (yielded L.toArray a.tmps) = true) (hS : S w)
 (hy : ∀ w, S w → (execOp a.eval o).run P w = .ok (.value v) w)
 (h : wpAnyH P md L.toArray Q S fuel (listed.setIfInBounds i true) (a.put o.dst v) w) : wpAnyH P md L.toArray Q S (fuel + 1) listed a w :=
 wpAnyH_take (by simpa using hi) hs hf hr hQ (.inl ⟨hw, hy⟩) hS h
theorem idleL (i : Nat) {o : Oper} {fuel : Nat} {listed : Array Bool} {a : Act} {w : World} (hi : L[i]? = some o)
 (hs : Region.noSelect L.toArray = true) (hf : Region.free md L.toArray listed i = true) (hr : (Region.ready md L.toArray listed).contains i = true)
 (hQ : ∀ c a w, Q (.panic c) (a.put o.dst undef) w → Q (.panic c) a w) (hw : Region.wanted o (yielded L.toArray a.tmps) = false) (hS : S w)
 (h : wpAnyH P md L.toArray Q S fuel (listed.setIfInBounds i true) (a.put o.dst undef) w) : wpAnyH P md L.toArray Q S (fuel + 1) listed a w :=
 wpAnyH_take (by simpa using hi) hs hf hr hQ (.inr ⟨hw, rfl⟩) hS h
theorem oneL (i : Nat) {o : Oper} {fuel : Nat} {listed : Array Bool} {a : Act} {w : World} (hi : L[i]? = some o) (hr : Region.ready md L.toArray listed = [i])
 (h : ∀ K' : Act → World → Prop, Shut (∀ a w, S w → (S w → wpAnyH P md L.toArray Q S fuel (listed.setIfInBounds i true) a w) → K' a w) → if Region.wanted o (yielded L.toArray a.tmps) = true then Oper.wp P o a w K' Q else K' (a.put o.dst undef) w) :
 wpAnyH P md L.toArray Q S (fuel + 1) listed a w :=
 wpAnyH_ready hr (by simp) (AllReadyH.cons (by simpa using hi) h AllReadyH.nil)
theorem twoL (i j : Nat) {o o' : Oper} {fuel : Nat} {listed : Array Bool} {a : Act} {w : World} (hi : L[i]? = some o) (hj : L[j]? = some o') (hr : Region.ready md L.toArray listed = [i, j])
 (h : ∀ K' : Act → World → Prop, Shut (∀ a w, S w → (S w → wpAnyH P md L.toArray Q S fuel (listed.setIfInBounds i true) a w) → K' a w) → if Region.wanted o (yielded L.toArray a.tmps) = true then Oper.wp P o a w K' Q else K' (a.put o.dst undef) w)
 (h' : ∀ K' : Act → World → Prop, Shut (∀ a w, S w → (S w → wpAnyH P md L.toArray Q S fuel (listed.setIfInBounds j true) a w) → K' a w) → if Region.wanted o' (yielded L.toArray a.tmps) = true then Oper.wp P o' a w K' Q else K' (a.put o'.dst undef) w) :
 wpAnyH P md L.toArray Q S (fuel + 1) listed a w :=
 wpAnyH_ready hr (by simp) (AllReadyH.cons (by simpa using hi) h (AllReadyH.cons (by simpa using hj) h' AllReadyH.nil))
end
end Go.Proofs.YtkdhdibjbabgfaaGreatDoor
end
section
namespace Go.Proofs.YtkdhdibjbabgfaaGreatDoor
section
variable {P : Program} {ops : Array Oper} {Q : Exit → Act → World → Prop} {md : Region.Mode} {S : World → Prop}
def wpAnyS (P : Program) (md : Region.Mode) (ops : Array Oper) (Q : Exit → Act → World → Prop) (S : World → Prop) (n : Nat) : Nat → Array Bool → Act → World → Prop
 | 0, listed, a, w => Region.ready md ops listed = [] ∧ Q .normal a w
 | fuel + 1, listed, a, w =>
   (Region.ready md ops listed = [] → Q .normal a w) ∧
   ∀ i ∈ Region.ready md ops listed, wpOp P ops Q i (fun a' w' => (i < n → S w') ∧ wpAnyS P md ops Q S n fuel (listed.setIfInBounds i true) a' w') a w
theorem wpAny_of_S {n : Nat} : ∀ (fuel : Nat) (listed : Array Bool) (a : Act) (w : World), wpAnyS P md ops Q S n fuel listed a w → wpAny P md ops Q fuel listed a w
 | 0, _, _, _, h => h
 | fuel + 1, _, _, _, h => ⟨h.1, fun i hi => wpOp_mono (fun a' w' h' => wpAny_of_S fuel _ a' w' h'.2) (h.2 i hi)⟩
structure TailAt (md : Region.Mode) (ops : Array Oper) (n : Nat) : Prop where
 sink : Region.sinkB md ops n = true
 chain : Region.chainB md ops n = true
 lt : n < ops.size
theorem tailAt {n : Nat} (h : (Region.sinkB md ops n && Region.chainB md ops n && decide (n < ops.size)) = true) : TailAt md ops n := by
 simp only [Bool.and_eq_true, decide_eq_true_eq] at h
 exact ⟨h.1.1, h.1.2, h.2⟩
theorem wpAnyS_first {n i : Nat} {oi : Oper} {v : Value} (T : TailAt md ops n) (hin : i < n) (hi : ops[i]? = some oi) (hsel : ∀ (j : Nat) (o : Oper) cs b, ops[j]? = some o → o.op ≠ .select cs b)
 (hQ : ∀ c a w, Q (.panic c) (a.put oi.dst v) w → Q (.panic c) a w) :
 ∀ (fuel : Nat) (listed : Array Bool) (a : Act) (w : World), HeadInv md ops n listed →
   (∀ j oj, ops[j]? = some oj → j ≠ i → listed.getD j true = false → (∀ e ∈ oj.after, Region.binds md e = true → e.on ≠ i) → oi.apart ops oj = true) →
   i ∈ Region.ready md ops listed → YieldsIf P ops S oi v a → S w →
   wpAnyS P md ops Q S n fuel (listed.setIfInBounds i true) (a.put oi.dst v) w → wpAnyS P md ops Q S n (fuel + 1) listed a w := by
 intro fuel
 induction fuel with
 | zero =>
   intro listed a w inv _ hr hy hS H
   refine ⟨fun h => (by rw [h] at hr; cases hr), fun j hj => ?_⟩
   by_cases hji : j = i
   ·subst hji; exact hy.wpOp hi hS ⟨fun _ => hS, H⟩
   ·have := ready_mono hj hji
    rw [H.1] at this
    cases this
 | succ fuel ih =>
   intro listed a w inv hfree hr hy hS H
   refine ⟨fun h => (by rw [h] at hr; cases hr), fun j hj => ?_⟩
   by_cases hji : j = i
   ·subst hji; exact hy.wpOp hi hS ⟨fun _ => hS, H⟩
   ·have hjn : j < n := by
     rcases Nat.lt_or_ge j n with h | h
     ·exact h
     ·exact absurd hj (tail_waits T.sink T.chain T.lt inv (n - i) i rfl hin (mem_ready.1 hr).1 j h)
    have h1 := H.2 j (ready_mono hj hji)
    obtain ⟨hjun, oj, hoj, hall⟩ := mem_ready.1 hj
    have hnot : ∀ e ∈ oj.after, Region.binds md e = true → e.on ≠ i := fun e he hb heq => by
     have h1 := hall e he hb
     have h0 := (mem_ready.1 hr).1
     rw [heq] at h1
     rcases Nat.lt_or_ge i listed.size with h' | h'
     ·simp [h'] at h0 h1; rw [h0] at h1; cases h1
     ·simp [Array.getElem?_eq_none h'] at h1
    have h2 := wpOp_putIf hoj (hfree j oj hoj hji hjun hnot) (fun cs b => hsel i oi cs b hi) (fun cs b => hsel j oj cs b hoj) hQ hy h1
    have hfree' : ∀ k ok, ops[k]? = some ok → k ≠ i → (listed.setIfInBounds j true).getD k true = false →
     (∀ e ∈ ok.after, Region.binds md e = true → e.on ≠ i) → oi.apart ops ok = true := fun k ok hk hki hun hno => by
     refine hfree k ok hk hki ?_ hno
     by_cases hjk : j = k
     ·subst hjk; exact hjun
     ·rw [getD_set_ne true hjk] at hun; exact hun
    refine wpOp_mono (fun a' w' h3 => ⟨fun _ => h3.2.1 hjn, ih (listed.setIfInBounds j true) a' w' (inv.set hj hjn) hfree' (ready_mono hr (Ne.symm hji)) h3.1 (h3.2.1 hjn) ?_⟩) h2
    rw [Array.setIfInBounds_comm _ _ hji]
    exact h3.2.2
theorem wpAnyS_done {n : Nat} {listed : Array Bool} {a : Act} {w : World} (hr : Region.ready md ops listed = []) (h : Q .normal a w) :
 ∀ fuel, wpAnyS P md ops Q S n fuel listed a w
 | 0 => ⟨hr, h⟩
 | _ + 1 => ⟨fun _ => h, by rw [hr]; simp⟩
theorem wp_region_tail {n id : Nat} {a : Act} {w : World} (hm : P.follows .mixedOrders = true) (hS : S w.drew)
 (h : S w.drew → HeadInv .any ops n (Array.replicate ops.size false) → wpAnyS P .any ops Q S n ops.size (Array.replicate ops.size false) a w.drew) (hn : n < ops.size) : (Code.region id ops true).wp P Q a w :=
 wp_region_any hm (wpAny_of_S _ _ _ _ (h hS ⟨by simp, fun j oj _ hl => (by rw [getD_replicate_false] at hl; cases hl), fun t _ ht => getD_in (by simpa using ht) (getD_replicate_false _ _)⟩))
end
section
variable {P : Program} {L : List Oper} {Q : Exit → Act → World → Prop} {md : Region.Mode} {S : World → Prop} {n : Nat}
theorem takeS (i : Nat) {o : Oper} {v : Value} {fuel : Nat} {listed : Array Bool} {a : Act} {w : World} (T : TailAt md L.toArray n) (inv : HeadInv md L.toArray n listed) (hin : i < n) (hi : L[i]? = some o)
 (hs : Region.noSelect L.toArray = true) (hf : Region.free md L.toArray listed i = true) (hr : (Region.ready md L.toArray listed).contains i = true)
 (hQ : ∀ c a w, Q (.panic c) (a.put o.dst v) w → Q (.panic c) a w) (hw : Region.wanted o (yielded L.toArray a.tmps) = true) (hS : S w)
 (hy : ∀ w, S w → (execOp a.eval o).run P w = .ok (.value v) w)
 (h : HeadInv md L.toArray n (listed.setIfInBounds i true) → wpAnyS P md L.toArray Q S n fuel (listed.setIfInBounds i true) (a.put o.dst v) w) : wpAnyS P md L.toArray Q S n (fuel + 1) listed a w :=
 have hr' : i ∈ Region.ready md L.toArray listed := by simpa using hr
 wpAnyS_first T hin (by simpa using hi) (Region.noSelect_spec hs) hQ fuel listed a w inv (Region.free_spec (by simpa using hi) hf) hr' (.inl ⟨hw, hy⟩) hS (h (inv.set hr' hin))
theorem oneS (i : Nat) {o : Oper} {fuel : Nat} {listed : Array Bool} {a : Act} {w : World} (inv : HeadInv md L.toArray n listed) (hin : i < n) (hi : L[i]? = some o) (hr : Region.ready md L.toArray listed = [i])
 (h : ∀ K' : Act → World → Prop, Shut (∀ a w, S w → (S w → HeadInv md L.toArray n (listed.setIfInBounds i true) → wpAnyS P md L.toArray Q S n fuel (listed.setIfInBounds i true) a w) → K' a w) → if Region.wanted o (yielded L.toArray a.tmps) = true then Oper.wp P o a w K' Q else K' (a.put o.dst undef) w) :
 wpAnyS P md L.toArray Q S n (fuel + 1) listed a w := by
 refine ⟨fun h0 => (by rw [hr] at h0; cases h0), fun j hj => ?_⟩
 rw [hr, List.mem_singleton] at hj
 subst hj
 exact wpOp_step (by simpa using hi) (fun K' hK => h K' (fun a w hS hW => hK a w ⟨fun _ => hS, hW hS (inv.set (by rw [hr]; simp) hin)⟩))
theorem twoS (i j : Nat) {o o' : Oper} {fuel : Nat} {listed : Array Bool} {a : Act} {w : World} (inv : HeadInv md L.toArray n listed) (hin : i < n) (hjn : j < n) (hi : L[i]? = some o) (hj : L[j]? = some o') (hr : Region.ready md L.toArray listed = [i, j])
 (h : ∀ K' : Act → World → Prop, Shut (∀ a w, S w → (S w → HeadInv md L.toArray n (listed.setIfInBounds i true) → wpAnyS P md L.toArray Q S n fuel (listed.setIfInBounds i true) a w) → K' a w) → if Region.wanted o (yielded L.toArray a.tmps) = true then Oper.wp P o a w K' Q else K' (a.put o.dst undef) w)
 (h' : ∀ K' : Act → World → Prop, Shut (∀ a w, S w → (S w → HeadInv md L.toArray n (listed.setIfInBounds j true) → wpAnyS P md L.toArray Q S n fuel (listed.setIfInBounds j true) a w) → K' a w) → if Region.wanted o' (yielded L.toArray a.tmps) = true then Oper.wp P o' a w K' Q else K' (a.put o'.dst undef) w) :
 wpAnyS P md L.toArray Q S n (fuel + 1) listed a w := by
 refine ⟨fun h0 => (by rw [hr] at h0; cases h0), fun k hk => ?_⟩
 rw [hr] at hk
 simp only [List.mem_cons, List.not_mem_nil, or_false] at hk
 rcases hk with rfl | rfl
 ·exact wpOp_step (by simpa using hi) (fun K' hK => h K' (fun a w hS hW => hK a w ⟨fun _ => hS, hW hS (inv.set (by rw [hr]; simp) hin)⟩))
 ·exact wpOp_step (by simpa using hj) (fun K' hK => h' K' (fun a w hS hW => hK a w ⟨fun _ => hS, hW hS (inv.set (by rw [hr]; simp) hjn)⟩))
theorem lastS (i : Nat) {o : Oper} {fuel : Nat} {listed : Array Bool} {a : Act} {w : World} (hi : L[i]? = some o) (hin : n ≤ i) (hr : Region.ready md L.toArray listed = [i])
 (h : ∀ K' : Act → World → Prop, Shut (∀ a w, wpAnyS P md L.toArray Q S n fuel (listed.setIfInBounds i true) a w → K' a w) → if Region.wanted o (yielded L.toArray a.tmps) = true then Oper.wp P o a w K' Q else K' (a.put o.dst undef) w) :
 wpAnyS P md L.toArray Q S n (fuel + 1) listed a w := by
 refine ⟨fun h0 => (by rw [hr] at h0; cases h0), fun j hj => ?_⟩
 rw [hr, List.mem_singleton] at hj
 subst hj
 exact wpOp_step (by simpa using hi) (fun K' hK => h K' (fun a w hW => hK a w ⟨fun h => absurd h (by omega), hW⟩))
end
end Go.Proofs.YtkdhdibjbabgfaaGreatDoor
end
section
namespace Go.Proofs.YtkdhdibjbabgfaaGreatDoor
def kN (x : Nat) : Nat := x % 8
def cN (x : Nat) : Nat := x / 8 % 4
def lnN (x : Nat) : Nat := x / 32 % 64
def mN (x : Nat) : Nat := x / 2048 % 8192
def bN (x : Nat) : Nat := x / 16777216 % 256
def RightN (x : Nat) : Prop := x < 4294967296 ∧ (((kN x = 0 ∨ kN x = 3) ∧ cN x = 0 ∧ lnN x = 0 ∧ mN x = 0 ∧ bN x = 0) ∨
 (kN x = 1 ∧ lnN x = 0 ∧ mN x = 0 ∧ ((cN x = 0 ∧ bN x < 256) ∨ (cN x = 1 ∧ bN x < 16) ∨ (cN x = 2 ∧ bN x < 4))) ∨
 (kN x = 2 ∧ cN x = 0 ∧ lnN x = 0 ∧ bN x = 0 ∧ 1 ≤ mN x ∧ mN x ≤ 8191) ∨ (kN x = 4 ∧ cN x = 0 ∧ bN x = 0 ∧ lnN x < 64 ∧ mN x ≤ 7))
instance (x : Nat) : Decidable (RightN x) := by unfold RightN; infer_instance
def okN (x : Nat) : Bool := decide (RightN x)
theorem okN_t {x : Nat} (h : okN x = true) : RightN x := of_decide_eq_true h
theorem parts_bd (x : Nat) : kN x < 8 ∧ cN x < 4 ∧ lnN x < 64 ∧ mN x < 8192 ∧ bN x < 256 := by
 unfold kN cN lnN mN bN; omega
def stepT (x n : Nat) : Option Nat := if decide (kN x = 3) = decide (0 < n) then some (if kN x = 3 then n - 1 else if kN x = 2 then mN x - 1 else n) else none
def runT (t : List Nat) : Nat → Option Nat
 | 0 => some 0
 | k + 1 => (runT t k).bind (stepT (t.getD k 0))
def rightT (t : List Nat) : Bool := t.all okN && (runT t t.length == some 0)
theorem all_at {t : List Nat} (h : t.all okN = true) {k : Nat} (hk : k < t.length) : okN (t.getD k 0) = true := by
 rw [List.getD_eq_getElem?_getD, List.getElem?_eq_getElem hk]
 exact List.all_eq_true.1 h _ (List.getElem_mem hk)
theorem runT_app (t u : List Nat) : ∀ k, k ≤ t.length → runT (t ++ u) k = runT t k
 | 0, _ => rfl
 | k + 1, hk => by
   simp only [runT]
   rw [runT_app t u k (by omega)]
   congr 2
   simp only [List.getD_eq_getElem?_getD]
   rw [List.getElem?_append_left (by omega)]
theorem runT_app2 (t u : List Nat) (h : runT t t.length = some 0) : ∀ j, runT (t ++ u) (t.length + j) = runT u j
 | 0 => by rw [Nat.add_zero, runT_app t u _ (Nat.le_refl _), h]; rfl
 | j + 1 => by
   rw [← Nat.add_assoc]
   simp only [runT]
   rw [runT_app2 t u h j]
   congr 2
   simp only [List.getD_eq_getElem?_getD]
   rw [List.getElem?_append_right (by omega)]
   congr 2
   omega
theorem rightT_t {t : List Nat} (h : rightT t = true) : t.all okN = true ∧ runT t t.length = some 0 := by
 simp only [rightT, Bool.and_eq_true, beq_iff_eq] at h; exact h
theorem rightT_mk {t : List Nat} (h1 : t.all okN = true) (h2 : runT t t.length = some 0) : rightT t = true := by
 simp only [rightT, Bool.and_eq_true, beq_iff_eq]; exact ⟨h1, h2⟩
theorem rightT_app {t u : List Nat} (h1 : rightT t = true) (h2 : rightT u = true) : rightT (t ++ u) = true := by
 obtain ⟨a1, b1⟩ := rightT_t h1
 obtain ⟨a2, b2⟩ := rightT_t h2
 refine rightT_mk (by rw [List.all_append, a1, a2]; rfl) ?_
 rw [List.length_append, runT_app2 t u b1, b2]
theorem rightT_one {x : Nat} (h : okN x = true) (h2 : ¬ kN x = 2) (h3 : ¬ kN x = 3) : rightT [x] = true := by
 refine rightT_mk (by simp [h]) ?_
 simp [runT, stepT, h2, h3]
theorem runT_huge (x n : Nat) (hk : kN x = 2) (hm : mN x = n + 1) : ∀ j, j ≤ n → runT (x :: List.replicate n 3) (j + 1) = some (n - j)
 | 0, _ => by simp [runT, stepT, hk, hm]
 | j + 1, hj => by
   rw [runT, runT_huge x n hk hm j (by omega)]
   have e : (x :: List.replicate n 3).getD (j + 1) 0 = 3 := by
    simp only [List.getD_eq_getElem?_getD, List.getElem?_cons_succ]
    rw [List.getElem?_replicate, if_pos (by omega)]
    rfl
   rw [e]
   have : kN 3 = 3 := rfl
   simp only [Option.bind_some, stepT, this]
   have h0 : 0 < n - j := by omega
   simp [h0]
   omega
theorem rightT_huge {x n : Nat} (h : okN x = true) (hk : kN x = 2) (hm : mN x = n + 1) : rightT (x :: List.replicate n 3) = true := by
 refine rightT_mk ?_ ?_
 ·rw [List.all_eq_true]
  intro y hy
  rcases List.mem_cons.1 hy with rfl | hy
  ·exact h
  ·have := List.eq_of_mem_replicate hy
   subst this
   decide
 ·have := runT_huge x n hk hm n (Nat.le_refl _)
  rw [List.length_cons, List.length_replicate, this, Nat.sub_self]
abbrev Bl := Nat × Nat × Nat
def mnN (c : Nat) : Nat := if c = 0 then 8 else if c = 1 then 4 else if c = 2 then 2 else 0
def blN (c : Nat) : Nat := if c = 0 then 4 else if c = 1 then 8 else if c = 2 then 16 else 0
def liveL (b m : Nat) : List Nat := (List.range m).filter b.testBit
def blksAt (i x : Nat) : List Bl := if kN x = 1 then (liveL (bN x) (mnN (cN x))).map (fun j => (i, j, blN (cN x))) else if kN x = 2 then [(i, 0, mN x * 32)] else []
def blksFrom : Nat → List Nat → List Bl
 | _, [] => []
 | o, x :: t => blksAt o x ++ blksFrom (o + 1) t
def blksT (t : List Nat) : List Bl := if t.all okN then blksFrom 0 t else []
end Go.Proofs.YtkdhdibjbabgfaaGreatDoor
end
section
namespace Go.Proofs.YtkdhdibjbabgfaaGreatDoor
open Go.RowKit
def Tab (w : World) : Prop := w.cell? ⟨5, 0, none⟩ = some (.int .i64 4) ∧ w.cell? ⟨5, 1, none⟩ = some (.int .i64 8) ∧ w.cell? ⟨5, 2, none⟩ = some (.int .i64 16)
def mnyI (c : Int) : Int := if c = 0 then 8 else if c = 1 then 4 else if c = 2 then 2 else 0
theorem blk_0 (s : Int) (w : World) (ht : Tab w) (h1 : s = 0) : Calls Tryz.prog 134 #[.int .i64 s] w fun e w' => e = .returned (.int .i64 4) ∧ w = w' := by
 obtain ⟨t0, t1, t2⟩ := ht
 subst h1
 go_enter Tryz.func134, Tryz.ntmps134
 go_wp2
 go_ret
 exact ⟨rfl, rfl⟩
theorem refBlk_0 (s : Int) (w : World) (h1 : s = 0) : Calls Tryz.prog 89 #[.int .i64 s] w fun e w' => e = .returned (.int .i64 4) ∧ w = w' := by
 subst h1
 go_enter Tryz.func89, Tryz.ntmps89
 go_wp2
 go_ret
 exact ⟨rfl, rfl⟩
theorem blk_1 (s : Int) (w : World) (ht : Tab w) (h1 : s = 1) : Calls Tryz.prog 134 #[.int .i64 s] w fun e w' => e = .returned (.int .i64 8) ∧ w = w' := by
 obtain ⟨t0, t1, t2⟩ := ht
 subst h1
 go_enter Tryz.func134, Tryz.ntmps134
 go_wp2
 go_ret
 exact ⟨rfl, rfl⟩
theorem refBlk_1 (s : Int) (w : World) (h1 : s = 1) : Calls Tryz.prog 89 #[.int .i64 s] w fun e w' => e = .returned (.int .i64 8) ∧ w = w' := by
 subst h1
 go_enter Tryz.func89, Tryz.ntmps89
 go_wp2
 go_ret
 exact ⟨rfl, rfl⟩
theorem blk_2 (s : Int) (w : World) (ht : Tab w) (h1 : s = 2) : Calls Tryz.prog 134 #[.int .i64 s] w fun e w' => e = .returned (.int .i64 16) ∧ w = w' := by
 obtain ⟨t0, t1, t2⟩ := ht
 subst h1
 go_enter Tryz.func134, Tryz.ntmps134
 go_wp2
 go_ret
 exact ⟨rfl, rfl⟩
theorem refBlk_2 (s : Int) (w : World) (h1 : s = 2) : Calls Tryz.prog 89 #[.int .i64 s] w fun e w' => e = .returned (.int .i64 16) ∧ w = w' := by
 subst h1
 go_enter Tryz.func89, Tryz.ntmps89
 go_wp2
 go_ret
 exact ⟨rfl, rfl⟩
theorem blk_3 (s : Int) (w : World) (ht : Tab w) (h1 : 3 ≤ s) : Calls Tryz.prog 134 #[.int .i64 s] w fun e w' => e = .returned (.int .i64 0) ∧ w = w' := by
 obtain ⟨t0, t1, t2⟩ := ht
 go_enter Tryz.func134, Tryz.ntmps134
 go_wp2
 go_ret
 exact ⟨rfl, rfl⟩
theorem refBlk_3 (s : Int) (w : World) (h1 : 3 ≤ s) : Calls Tryz.prog 89 #[.int .i64 s] w fun e w' => e = .returned (.int .i64 0) ∧ w = w' := by
 go_enter Tryz.func89, Tryz.ntmps89
 go_wp2
 go_ret
 exact ⟨rfl, rfl⟩
theorem blk_4 (s : Int) (w : World) (ht : Tab w) (h1 : s ≤ -1) : Calls Tryz.prog 134 #[.int .i64 s] w fun e w' => e = .returned (.int .i64 0) ∧ w = w' := by
 obtain ⟨t0, t1, t2⟩ := ht
 go_enter Tryz.func134, Tryz.ntmps134
 go_wp2
 go_ret
 exact ⟨rfl, rfl⟩
theorem refBlk_4 (s : Int) (w : World) (h1 : s ≤ -1) : Calls Tryz.prog 89 #[.int .i64 s] w fun e w' => e = .returned (.int .i64 0) ∧ w = w' := by
 go_enter Tryz.func89, Tryz.ntmps89
 go_wp2
 go_ret
 exact ⟨rfl, rfl⟩
theorem mny_0 (s : Int) (w : World) (ht : Tab w) (h1 : s = 0) : Calls Tryz.prog 135 #[.int .i64 s] w fun e w' => e = .returned (.int .i64 8) ∧ w = w' := by
 subst h1
 go_enter Tryz.func135, Tryz.ntmps135
 go_wp2_with (go_at_call 134; refine (blk_0 0 _ ht rfl).mono ?_; rintro e w' ⟨rfl, rfl⟩)
 go_ret
 exact ⟨rfl, rfl⟩
theorem refMny_0 (s : Int) (w : World) (h1 : s = 0) : Calls Tryz.prog 58 #[.int .i64 s] w fun e w' => e = .returned (.int .i64 8) ∧ w = w' := by
 subst h1
 go_enter Tryz.func58, Tryz.ntmps58
 go_wp2_with (go_at_call 89; refine (refBlk_0 0 _ rfl).mono ?_; rintro e w' ⟨rfl, rfl⟩)
 refine wp_loop_rounds 10 ?_
 repeat any_goals (rw [rounds_succ]; go_wp2_with (go_at_call 89; refine (refBlk_0 0 _ rfl).mono ?_; rintro e w' ⟨rfl, rfl⟩))
 go_ret
 exact ⟨rfl, rfl⟩
theorem mny_1 (s : Int) (w : World) (ht : Tab w) (h1 : s = 1) : Calls Tryz.prog 135 #[.int .i64 s] w fun e w' => e = .returned (.int .i64 4) ∧ w = w' := by
 subst h1
 go_enter Tryz.func135, Tryz.ntmps135
 go_wp2_with (go_at_call 134; refine (blk_1 1 _ ht rfl).mono ?_; rintro e w' ⟨rfl, rfl⟩)
 go_ret
 exact ⟨rfl, rfl⟩
theorem refMny_1 (s : Int) (w : World) (h1 : s = 1) : Calls Tryz.prog 58 #[.int .i64 s] w fun e w' => e = .returned (.int .i64 4) ∧ w = w' := by
 subst h1
 go_enter Tryz.func58, Tryz.ntmps58
 go_wp2_with (go_at_call 89; refine (refBlk_1 1 _ rfl).mono ?_; rintro e w' ⟨rfl, rfl⟩)
 refine wp_loop_rounds 10 ?_
 repeat any_goals (rw [rounds_succ]; go_wp2_with (go_at_call 89; refine (refBlk_1 1 _ rfl).mono ?_; rintro e w' ⟨rfl, rfl⟩))
 go_ret
 exact ⟨rfl, rfl⟩
theorem mny_2 (s : Int) (w : World) (ht : Tab w) (h1 : s = 2) : Calls Tryz.prog 135 #[.int .i64 s] w fun e w' => e = .returned (.int .i64 2) ∧ w = w' := by
 subst h1
 go_enter Tryz.func135, Tryz.ntmps135
 go_wp2_with (go_at_call 134; refine (blk_2 2 _ ht rfl).mono ?_; rintro e w' ⟨rfl, rfl⟩)
 go_ret
 exact ⟨rfl, rfl⟩
theorem refMny_2 (s : Int) (w : World) (h1 : s = 2) : Calls Tryz.prog 58 #[.int .i64 s] w fun e w' => e = .returned (.int .i64 2) ∧ w = w' := by
 subst h1
 go_enter Tryz.func58, Tryz.ntmps58
 go_wp2_with (go_at_call 89; refine (refBlk_2 2 _ rfl).mono ?_; rintro e w' ⟨rfl, rfl⟩)
 refine wp_loop_rounds 10 ?_
 repeat any_goals (rw [rounds_succ]; go_wp2_with (go_at_call 89; refine (refBlk_2 2 _ rfl).mono ?_; rintro e w' ⟨rfl, rfl⟩))
 go_ret
 exact ⟨rfl, rfl⟩
theorem refMny_3 (s : Int) (w : World) (h1 : 3 ≤ s) : Calls Tryz.prog 58 #[.int .i64 s] w fun e w' => e = .returned (.int .i64 0) ∧ w = w' := by
 go_enter Tryz.func58, Tryz.ntmps58
 go_wp2_with (go_at_call 89; refine (refBlk_3 s _ h1).mono ?_; rintro e w' ⟨rfl, rfl⟩)
 refine wp_loop_rounds 10 ?_
 repeat any_goals (rw [rounds_succ]; go_wp2_with (go_at_call 89; refine (refBlk_3 s _ h1).mono ?_; rintro e w' ⟨rfl, rfl⟩))
 go_ret
 exact ⟨rfl, rfl⟩
theorem refMny_4 (s : Int) (w : World) (h1 : s ≤ -1) : Calls Tryz.prog 58 #[.int .i64 s] w fun e w' => e = .returned (.int .i64 0) ∧ w = w' := by
 go_enter Tryz.func58, Tryz.ntmps58
 go_wp2_with (go_at_call 89; refine (refBlk_4 s _ h1).mono ?_; rintro e w' ⟨rfl, rfl⟩)
 refine wp_loop_rounds 10 ?_
 repeat any_goals (rw [rounds_succ]; go_wp2_with (go_at_call 89; refine (refBlk_4 s _ h1).mono ?_; rintro e w' ⟨rfl, rfl⟩))
 go_ret
 exact ⟨rfl, rfl⟩
theorem refMny_any (s : Int) (w : World) : Calls Tryz.prog 58 #[.int .i64 s] w fun e w' => e = .returned (.int .i64 (mnyI s)) ∧ w = w' := by
 by_cases a1 : s = 0
 ·rw [show mnyI s = 8 by simp [mnyI, a1]]; exact refMny_0 s w a1
 by_cases a2 : s = 1
 ·rw [show mnyI s = 4 by simp [mnyI, a2]]; exact refMny_1 s w a2
 by_cases a3 : s = 2
 ·rw [show mnyI s = 2 by simp [mnyI, a3]]; exact refMny_2 s w a3
 rw [show mnyI s = 0 by simp [mnyI, a1, a2, a3]]
 by_cases a4 : s < 0
 ·exact refMny_4 s w (by omega)
 ·exact refMny_3 s w (by omega)
theorem tab_keep {w w1 : World} {n : Nat} (h : Tab w) (hs : 5 < n) (hb : Below n w w1) : Tab w1 :=
 ⟨by rw [hb.cell hs]; exact h.1, by rw [hb.cell hs]; exact h.2.1, by rw [hb.cell hs]; exact h.2.2⟩
end Go.Proofs.YtkdhdibjbabgfaaGreatDoor
end
section
namespace Go.Proofs.YtkdhdibjbabgfaaGreatDoor
open Go.RowKit
def SeqTold {α : Type} (F : Fence) (n : Nat) (P : Program) (g : Nat) (lb : Array Value) (encs : α → Array Value) (Kp : World → World → Prop) (T : α → World → Prop) (S Sp : List α → Prop) (N : Nat) (w : World) : Prop :=
 ∀ (l : Nat) (J Jx : List α → World → Prop) (W : World), Below w.heap.size w W → AbidesFrom W.heap.size J → AbidesFrom W.heap.size Jx →
   (∀ pre x W1, J pre W1 → T x W1 → pre.length < N → YieldAt F (n - 1) P l (encs x) W1 fun e W' =>
     (e = .returned (.bool true) ∧ J (pre ++ [x]) W' ∧ Kp W1 W') ∨ (e = .returned (.bool false) ∧ Jx (pre ++ [x]) W')) →
   J [] W → CallsIn F n P g (#[.func (.yield l) #[] #[]] ++ lb) W fun e W' => (∃ v, e = .returned v) ∧ ((∃ xs, S xs ∧ J xs W') ∨ (∃ pre, Sp pre ∧ Jx pre W'))
section
variable {F : Fence} {n : Nat} {P : Program}
def Lp (L D : Nat) (r : Loop) (W : World) : Prop := W.heap[L]? = some (.loop r) ∧ W.heap[D]? = some (.deferred (some []))
theorem Lp.grown {L D : Nat} {r : Loop} {W W' : World} {row : Option Nat} (h : Lp L D r W) (hg : W.grownBy W' row) (hr : ∀ k, row = some k → ∃ o : Obj, W.heap[k]? = some o ∧ o.isWalk = true) : Lp L D r W' :=
 ⟨(grownBy_keeps hg hr h.1 rfl).trans h.1, (grownBy_keeps hg hr h.2 rfl).trans h.2⟩
theorem Lp.turn {L D : Nat} {r : Loop} {W : World} (h : Lp L D r W) (hne : L ≠ D) (r' : Loop) : Lp L D r' (W.putObj L (.loop r')) :=
 ⟨World.putObj_heap_same (Array.getElem?_eq_some_iff.1 h.1).1, (World.putObj_heap_other hne.symm).trans h.2⟩
theorem Lp.from {B L D : Nat} {r : Loop} {W W' : World} (h : Lp L D r W) (hk : KeepsFrom B W W') (hL : B ≤ L) (hD : B ≤ D) : Lp L D r W' := ⟨hk.same _ _ hL h.1 rfl, hk.same _ _ hD h.2 rfl⟩
theorem wpIn_rangeFunc_told {α : Type} {g : Operand} {ps : Array Tmp} {assign body : Code} {Q : Exit → Act → World → Prop} {a : Act} {w : World}
 (hro : F.round = none) (h1 : 1 ≤ n) {gf : Nat} {lb : Array Value} (hg : a.eval g = .func (.func gf) #[] lb) (hFg : F.fn gf) (eg : ∀ args w, (callFunc gf args).run P w = .ok (.enter gf args) w)
 {encs : α → Array Value} {Kp : World → World → Prop} {T : α → World → Prop} {S Sp : List α → Prop} {N : Nat} {w0 : World} (hseq : SeqTold F (n - 1) P gf lb encs Kp T S Sp N w0)
 (hKt : ∀ {A B C : World}, Kp A B → Kp B C → Kp A C) (hKb : ∀ (W : World) (l : Nat) (o o' : Obj), w.heap.size ≤ l → W.heap[l]? = some o → o.isCells = false → o.isWalk = false → Kp W (W.putObj l o')) (hb0 : Below w0.heap.size w0 w) (hps : ∀ x, (encs x).size = ps.size)
 (I : List α → World → Prop) (Ix : Code → List α → World → Prop) (hI : OwnFrom w.heap.size I) (hIx : ∀ c, OwnFrom w.heap.size (Ix c)) (h0 : I [] w) (Ax : α → Act → World → Prop) (hAx : ∀ x a', OwnFrom w.heap.size (fun (_ : Unit) W => Ax x a' W))
 (hassign : ∀ (l : Nat) (pre : List α) (x : α) (W : World) (K : Act → World → Prop), I pre W → T x W → (∀ a' W', KeepsFrom w.heap.size W W' → Kp W W' → I pre W' → Ax x a' W' → K a' W') →
   assign.wpIn (F.inRound l) (n - 1 - 1) P (Exit.then K (fun _ _ _ => False)) { tmps := (ps.zip (encs x)).foldl (fun t (p, v) => t.setIfInBounds p v) a.tmps, defers := [] } W)
 (hbody : ∀ (l : Nat) (pre : List α) (x : α) (a' : Act) (W : World), I pre W → Ax x a' W → pre.length < N → body.wpIn (F.inRound l) (n - 1 - 1) P (ownPostG w.heap.size Kp I Ix (pre ++ [x]) W) a' W)
 (hdone : ∀ (D : Nat) (xs : List α) (W : World), w.heap.size ≤ D → S xs → I xs W → W.heap[D]? = some (.deferred (some [])) → Q .normal { a with defers := { target := .collected D, args := #[] } :: a.defers } W)
 (hstop : ∀ (D : Nat) (c : Code) (pre : List α) (W : World), w.heap.size ≤ D → Sp pre → Ix c pre W → W.heap[D]? = some (.deferred (some [])) → c.wpIn F n P Q { a with defers := { target := .collected D, args := #[] } :: a.defers } W) :
 (Code.rangeFunc g ps assign body).wpIn F n P Q a w := by
 refine wpIn_rangeFunc ?_
 intro fn hfn
 rw [hro]
 obtain ⟨R, hR⟩ : ∃ R : LoopState → Option Code → Loop, R = fun st pe => { state := st, pending := pe, fn, tmps := a.tmps, params := ps, assign, body, defers := w.heap.size } := ⟨_, rfl⟩
 obtain ⟨W1, hW1⟩ : ∃ W1, W1 = (w.alloc (.deferred (some []))).alloc (.loop (R .ready none)) := ⟨_, rfl⟩
 have hen : (Instr.enterLoop fn a.tmps ps assign body none).run P w = .ok (w.heap.size + 1, [{ target := .collected w.heap.size, args := #[] }]) W1 := by
  rw [hW1, hR]; exact run_enterLoop_outer _ _ _ _ _
 have hlp : Lp (w.heap.size + 1) w.heap.size (R .ready none) W1 := by
  have q := World.alloc_heap_new (w.alloc (.deferred (some []))) (.loop (R .ready none))
  rw [World.size_alloc] at q
  rw [hW1]
  exact ⟨q, (Below.heap_alloc _ _ _ (by simp)).trans (World.alloc_heap_new w _)⟩
 have hi1 : I [] W1 := by rw [hW1]; exact hI.alloc _ (hI.alloc _ h0)
 have hb1 : Below w0.heap.size w0 W1 := by rw [hW1]; exact hb0.trans (((bZ w _).alloc (by simp) _).mono hb0.size)
 have hs1 : w.heap.size ≤ W1.heap.size := by rw [hW1]; simp; omega
 have hne : w.heap.size + 1 ≠ w.heap.size := by omega
 clear hW1
 refine ⟨_, _, W1, { target := .fn (.func gf) lb, args := #[.func (.yield (w.heap.size + 1)) #[] #[]] }, W1, gf, #[.func (.yield (w.heap.size + 1)) #[] #[]] ++ lb, W1, hen,
  by simp only [resolve, hg]; simp [go_sem], fun f' hf' => by simp [Target.leads] at hf'; subst hf'; exact hFg, by simp [invoke, go_sem, eg], fun _ => h1, ?_⟩
 clear hen
 have hrow : ∀ {A : World} {row : Option Nat}, (∀ r, row = some r → W1.heap.size ≤ r ∧ ∃ o : Obj, A.heap[r]? = some o ∧ o.isWalk = true) → (∀ r, row = some r → w.heap.size ≤ r ∧ ∃ o : Obj, A.heap[r]? = some o ∧ o.isCells = false) := fun h r e => by
  obtain ⟨q, o, ho, hw⟩ := h r e
  exact ⟨Nat.le_trans hs1 q, o, ho, Obj.not_cells_of_walk hw⟩
 have hend : ∀ (j : Option Code) (W3 : World), Lp (w.heap.size + 1) w.heap.size { R .ready none with state := .busy } W3 →
  (Instr.endRound (w.heap.size + 1) j).run P W3 = .ok (.bool j.isNone) (W3.putObj (w.heap.size + 1) (.loop (R (if j.isNone then .ready else .done) j))) := fun j W3 h => by
  have := run_endRound (P := P) j h.1
  rw [hR] at this ⊢
  exact this
 refine (hseq (w.heap.size + 1) (fun pre W => I pre W ∧ Lp (w.heap.size + 1) w.heap.size (R .ready none) W) (fun pre W => ∃ c, Ix c pre W ∧ Lp (w.heap.size + 1) w.heap.size (R .done (some c)) W) W1 hb1
  (fun s A B row hs hg hr => ⟨hI s A B row hs.1 hg (hrow hr), hs.2.grown hg (fun k e => (hr k e).2)⟩)
  (fun s A B row ⟨c, hc, hl⟩ hg hr => ⟨c, hIx c s A B row hc hg (hrow hr), hl.grown hg (fun k e => (hr k e).2)⟩) ?_ ⟨hi1, hlp⟩).mono ?_
 ·rintro pre x W ⟨hi, hl⟩ hT hlen
  have hy := run_yield (P := P) (args := encs x) hl.1 (by rw [hR]; exact hps x)
  rw [hR] at hy
  refine ⟨fn, _, assign, body, hy, roundIn_of_wpIn hfn (hassign _ pre x W _ hi hT ?_)⟩
  intro a' Wa hk hkp hia hax
  have hla := hl.from hk (by omega) (Nat.le_refl _)
  have hlb := hla.turn hne { R .ready none with state := .busy }
  have hkb := hKt hkp (hKb Wa _ _ (.loop { R .ready none with state := .busy }) (by omega) hla.1 rfl rfl)
  refine ⟨_, run_beginRound hla.1 (by rw [hR]), wpIn_mono (hbody _ pre x a' _ (hI.putObj _ hia (by omega) hla.1 rfl) ((hAx x a').putObj (s := ()) _ hax (by omega) hla.1 rfl) hlen) ?_⟩
  rintro e a3 W3 hp
  have stop : ∀ c, KeepsFrom w.heap.size (Wa.putObj (w.heap.size + 1) (.loop { R .ready none with state := .busy })) W3 ∧ Ix c (pre ++ [x]) W3 →
   Ix c (pre ++ [x]) (W3.putObj (w.heap.size + 1) (.loop (R .done (some c)))) ∧ Lp (w.heap.size + 1) w.heap.size (R .done (some c)) (W3.putObj (w.heap.size + 1) (.loop (R .done (some c)))) := fun c h => by
   have h3 := hlb.from h.1 (by omega) (Nat.le_refl _)
   exact ⟨(hIx c).putObj _ h.2 (by omega) h3.1 rfl, h3.turn hne _⟩
  cases e with
  | normal =>
    obtain ⟨hk3, hkp3, hi3⟩ := hp
    have h3 := hlb.from hk3 (by omega) (Nat.le_refl _)
    exact ⟨_, _, hend none W3 h3, .inl ⟨rfl, ⟨hI.putObj _ hi3 (by omega) h3.1 rfl, h3.turn hne _⟩, hKt hkb (hKt hkp3 (hKb _ _ _ _ (by omega) h3.1 rfl rfl))⟩⟩
  | ret => exact ⟨_, _, hend (some .ret) W3 (hlb.from hp.1 (by omega) (Nat.le_refl _)), .inr ⟨rfl, .ret, stop _ hp⟩⟩
  | exit id => exact ⟨_, _, hend (some (.exit id)) W3 (hlb.from hp.1 (by omega) (Nat.le_refl _)), .inr ⟨rfl, .exit id, stop _ hp⟩⟩
  | goto t => exact ⟨_, _, hend (some (.goto t)) W3 (hlb.from hp.1 (by omega) (Nat.le_refl _)), .inr ⟨rfl, .goto t, stop _ hp⟩⟩
  | panic ch => exact hp.elim
  | outgrown => exact hp.elim
 ·rintro e W2 ⟨⟨v, rfl⟩, (⟨xs, hS, hi, hl⟩ | ⟨pre, hSp, c, hi, hl⟩)⟩
  ·have q := run_endLoop (P := P) hl.1 (by rw [hR]; simp)
   rw [hR] at q
   exact ⟨none, _, q, hdone _ xs _ (Nat.le_refl _) hS (hI.putObj _ hi (by omega) hl.1 rfl) ((World.putObj_heap_other (by omega)).trans hl.2)⟩
  ·have q := run_endLoop (P := P) hl.1 (by rw [hR]; simp)
   rw [hR] at q
   exact ⟨some c, _, q, hstop _ c pre _ (Nat.le_refl _) hSp ((hIx c).putObj _ hi (by omega) hl.1 rfl) ((World.putObj_heap_other (by omega)).trans hl.2)⟩
end
end Go.Proofs.YtkdhdibjbabgfaaGreatDoor
end
