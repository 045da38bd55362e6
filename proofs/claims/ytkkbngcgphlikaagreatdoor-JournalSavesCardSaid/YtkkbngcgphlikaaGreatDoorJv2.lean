/-
  Part of the proof of JournalSaves.
-/
import Derived.Test.YtkkbngcgphlikaaGreatDoorJv1
import Derived.Test.YtkkbngcgphlikaaGreatDoorRows
import Derived.BigQuiet
import Derived.Carry
import Derived.ChangeSlices
import Derived.Deep.QuietTactic
import Derived.Deep.RegionHeld3
import Derived.Deep.SlicePairs
import Derived.Maps.AppendAt
import Derived.OwnWalk
import Derived.WalkLawsBesides
import Derived.WalkSpells
import Derived.Test.YtkkbngcgphlikaaGreatDoorJv0
set_option maxRecDepth 10000
set_option maxHeartbeats 800000
set_option linter.unusedVariables false
set_option linter.unusedSimpArgs false
section
namespace Go.Proofs.YtkkbngcgphlikaaGreatDoor
open Go.RowKit Go.ChangeShapes Go.WideShapes Go.Deep
section
variable {α : Type}
theorem fm_len {sz : Nat} {en : α → List Value} (hen : ∀ x, (en x).length = sz) (l : List α) : (l.flatMap en).length = l.length * sz := by
 induction l with
 | nil => simp
 | cons x l ih => rw [List.flatMap_cons, List.length_append, ih, hen, List.length_cons, Nat.add_mul, Nat.one_mul, Nat.add_comm]
def OwnE (e : TypeId) (sz : Nat) (en : α → List Value) (w : World) (base : Nat) (v : Value) (l : List α) : Prop := w.ownsRow base e sz v l.length (l.flatMap en)
theorem OwnE.keep {e : TypeId} {sz : Nat} {en : α → List Value} {w w1 : World} {base : Nat} {v : Value} {l : List α} (h : OwnE e sz en w base v l) (hb : Below w.heap.size w w1) : OwnE e sz en w1 base v l := by
 refine ⟨h.1, ?_⟩
 rcases h.2 with h2 | ⟨g, cap, cur, hv, hbg, hg, h1, h2, h3, h4⟩
 ·exact .inl h2
 ·exact .inr ⟨g, cap, cur, hv, hbg, by rw [hb.block g (Array.getElem?_eq_some_iff.1 hg).1]; exact hg, h1, h2, h3, h4⟩
theorem OwnE.mono {e : TypeId} {sz : Nat} {en : α → List Value} {w : World} {base b2 : Nat} {v : Value} {l : List α} (h : OwnE e sz en w base v l) (hb : b2 ≤ base) : OwnE e sz en w b2 v l := by
 refine ⟨h.1, ?_⟩
 rcases h.2 with h2 | ⟨g, cap, cur, hv, hbg, hg, h1, h2, h3, h4⟩
 ·exact .inl h2
 ·exact .inr ⟨g, cap, cur, hv, by omega, hg, h1, h2, h3, h4⟩
theorem OwnE.nil (e : TypeId) (sz : Nat) (en : α → List Value) (w : World) (base : Nat) : OwnE e sz en w base (.slice none 0 0) [] := World.ownsRow_nil _ _ _ _
theorem OwnE.lt {e : TypeId} {sz : Nat} {en : α → List Value} {w : World} {base : Nat} {v : Value} {l : List α} (h : OwnE e sz en w base v l) : ∀ k, v.ownBlock = some k → base ≤ k ∧ k < w.heap.size := World.ownsRow.lt h
theorem OwnE.kept {e : TypeId} {sz : Nat} {en : α → List Value} {w w1 : World} {base : Nat} {v : Value} {l : List α} {row : Option Nat} (h : OwnE e sz en w base v l) (hg : w.grownBy w1 row) (hne : v.ownBlock = none ∨ v.ownBlock ≠ row) : OwnE e sz en w1 base v l := World.ownsRow.kept h hg hne
theorem OwnE.drew {e : TypeId} {sz : Nat} {en : α → List Value} {w : World} {base : Nat} {v : Value} {l : List α} (h : OwnE e sz en w base v l) : OwnE e sz en w.drew base v l := h
theorem OwnE.alloc {e : TypeId} {sz : Nat} {en : α → List Value} {w : World} {base : Nat} {v : Value} {l : List α} (h : OwnE e sz en w base v l) (o : Obj) : OwnE e sz en (w.alloc o) base v l := h.keep (bZ _ _)
theorem OwnE.far {e : TypeId} {sz : Nat} {en : α → List Value} {w : World} {base g o : Nat} {v : Value} {l : List α} (h : OwnE e sz en w base v l) (hg : g < base) (u : Value) : OwnE e sz en (w.setCell ⟨g, o, none⟩ u) base v l := by
 refine ⟨h.1, ?_⟩
 rcases h.2 with h2 | ⟨g', cap, cur, hv, hbg, hgc, h1, h2, h3, h4⟩
 ·exact .inl h2
 ·exact .inr ⟨g', cap, cur, hv, hbg, by rw [Below.heap_setCell w ⟨g, o, none⟩ u g' (by simp only []; omega)]; exact hgc, h1, h2, h3, h4⟩
theorem OwnE.form {e : TypeId} {sz : Nat} {en : α → List Value} {w : World} {base : Nat} {v : Value} {l : List α} (h : OwnE e sz en w base v l) (hp : 0 < l.length) : ∃ g cap, v = .slice (some ⟨g, 0, none⟩) l.length cap ∧ base ≤ g ∧ g < w.heap.size ∧ l.length ≤ cap := by
 rcases h.2 with ⟨_, hn⟩ | ⟨g, cap, cur, hv, hb, hg, h1, _⟩
 ·omega
 ·exact ⟨g, cap, hv, hb, (Array.getElem?_eq_some_iff.1 hg).1, h1⟩
theorem OwnE.lit (e : TypeId) {sz : Nat} {en : α → List Value} (hen : ∀ x, (en x).length = sz) (w : World) (l : List α) (cs : Array Value) (hcs : cs = (l.flatMap en).toArray) (hl : l.length ≤ 100000) : OwnE e sz en (w.alloc (.cells cs e)) w.heap.size (.slice (some ⟨w.heap.size, 0, none⟩) l.length l.length) l := by
 subst hcs
 refine ⟨fm_len hen l, .inr ⟨w.heap.size, _, _, rfl, Nat.le_refl _, heap_alloc_new w _, Nat.le_refl _, by unfold maxLen; omega, ?_, ?_⟩⟩
 ·rw [List.size_toArray, fm_len hen]
 ·simp only [List.toList_toArray]; rw [← fm_len hen l, List.take_length]
structure ElT (P : Program) (S e : TypeId) (sz by_ : Nat) (en : α → List Value) : Prop where
 und : P.underlying S = some (.slice e)
 info : ∃ i0 z, P.info? e = some i0 ∧ i0.zero = some z ∧ i0.size = sz ∧ i0.bytes = by_ ∧ z.cells.size = sz
 len : ∀ x, (en x).length = sz
 one : ∀ x, ∀ u ∈ en x, u.oneCell' = true
 pos : 0 < sz
 small : by_ ≤ 1000
theorem grown_below {w w1 : World} {base : Nat} {v : Value} (hg : w.grownBy w1 v.ownBlock) (hb : base ≤ w.heap.size) (hl : ∀ k, v.ownBlock = some k → base ≤ k) : Below base w w1 := (Below.refl base w).grown hg hb hl
theorem spot_none {W : World} {a : Addr} {v : Value} (h : W.cell? a = some v) : a.spot = none := by
 unfold World.cell? at h
 split at h
 ·split at h
  ·simp at h
  ·rename_i hs
   simpa using hs
 ·simp at h
end
section
variable {α : Type} [Inhabited α]
def EL (sz : Nat) (en : α → List Value) (w : World) (v : Value) (l : List α) : Prop :=
 ∃ A cap, v = .slice A l.length cap ∧ (0 < l.length → ∃ g off, A = some ⟨g, off, none⟩ ∧ g < w.heap.size ∧ l.length ≤ cap ∧ ∀ i, i < l.length → ∀ j, j < sz → w.cell? ⟨g, off + i * sz + j, none⟩ = (en (l.getD i default))[j]?)
theorem EL.keep {sz : Nat} {en : α → List Value} {w w1 : World} {v : Value} {l : List α} (h : EL sz en w v l) (hb : Below w.heap.size w w1) : EL sz en w1 v l := by
 obtain ⟨A, cap, hv, h⟩ := h
 refine ⟨A, cap, hv, fun hl => ?_⟩
 obtain ⟨g, off, hA, hg, hc, hi⟩ := h hl
 exact ⟨g, off, hA, Nat.lt_of_lt_of_le hg hb.size, hc, fun i h j hj => by rw [(bcell hb).1 _ _ hg]; exact hi i h j hj⟩
theorem EL.nil (sz : Nat) (en : α → List Value) (w : World) (A : Option Addr) (cap : Nat) : EL sz en w (.slice A 0 cap) [] := ⟨A, cap, rfl, fun h => by simp at h⟩
theorem EL.form {sz : Nat} {en : α → List Value} {w : World} {v : Value} {l : List α} {n : Nat} (h : EL sz en w v l) (hn : l.length = n) : ∃ A cap, v = .slice A n cap ∧
 ∀ w1 i, Below w.heap.size w w1 → i < n → ∃ g off, A = some ⟨g, off, none⟩ ∧ n ≤ cap ∧ g < w.heap.size ∧ g < w1.heap.size ∧ ∀ j, j < sz → w1.cell? ⟨g, off + i * sz + j, none⟩ = (en (l.getD i default))[j]? := by
 obtain ⟨A, cap, hv, h⟩ := h
 refine ⟨A, cap, by rw [hv, hn], fun w1 i hb hi => ?_⟩
 obtain ⟨g, off, hA, hg, hc, hcell⟩ := h (by omega)
 refine ⟨g, off, hA, by omega, hg, Nat.lt_of_lt_of_le hg hb.size, fun j hj => ?_⟩
 rw [(bcell hb).1 _ _ hg]; exact hcell i (by omega) j hj
theorem fm_at {sz : Nat} {en : α → List Value} (hen : ∀ x, (en x).length = sz) : ∀ (l : List α) (i j : Nat), i < l.length → j < sz → (l.flatMap en)[i * sz + j]? = (en (l.getD i default))[j]?
 | [], i, j, hi, _ => by simp at hi
 | x :: l, 0, j, _, hj => by
   rw [List.flatMap_cons, Nat.zero_mul, Nat.zero_add, List.getElem?_append_left (by rw [hen]; exact hj)]; rfl
 | x :: l, i + 1, j, hi, hj => by
   rw [List.flatMap_cons, List.getElem?_append_right (by rw [hen, Nat.add_mul]; omega), hen]
   rw [show (i + 1) * sz + j - sz = i * sz + j by rw [Nat.add_mul]; omega]
   rw [fm_at hen l i j (by simpa using hi) hj]; rfl
theorem fm_set {sz : Nat} {en : α → List Value} (hen : ∀ x, (en x).length = sz) {x' : α} {u : Value} : ∀ (l : List α) (i j : Nat), i < l.length → j < sz → en x' = (en (l.getD i default)).set j u → (l.flatMap en).set (i * sz + j) u = (l.set i x').flatMap en
 | [], i, j, hi, _, _ => by simp at hi
 | x :: l, 0, j, _, hj, he => by
   rw [List.flatMap_cons, Nat.zero_mul, Nat.zero_add, List.set_append_left _ _ (by rw [hen]; exact hj), List.set_cons_zero, List.flatMap_cons, he]; rfl
 | x :: l, i + 1, j, hi, hj, he => by
   rw [List.flatMap_cons, List.set_append_right _ _ (by rw [hen, Nat.add_mul]; omega), hen, List.set_cons_succ, List.flatMap_cons]
   rw [show (i + 1) * sz + j - sz = i * sz + j by rw [Nat.add_mul]; omega]
   rw [fm_set hen l i j (by simpa using hi) hj he]
theorem OwnE.el {e : TypeId} {sz : Nat} {en : α → List Value} (hen : ∀ x, (en x).length = sz) {w : World} {base : Nat} {v : Value} {l : List α} (h : OwnE e sz en w base v l) : EL sz en w v l := by
 have h' := h
 rcases h.2 with ⟨hv, hn⟩ | ⟨g, cap, cur, hv, hb, hg, h1, h2, h3, h4⟩
 ·have : l = [] := by simpa using hn
  subst this
  exact ⟨none, 0, hv, fun h => by simp at h⟩
 ·subst hv
  refine ⟨some ⟨g, 0, none⟩, cap, rfl, fun _ => ⟨g, 0, rfl, (Array.getElem?_eq_some_iff.1 hg).1, h1, fun i hi j hj => ?_⟩⟩
  rw [Nat.zero_add]
  have hlt : i * sz + j < l.length * sz := by
   have : i * sz + sz ≤ l.length * sz := by rw [← Nat.succ_mul]; exact Nat.mul_le_mul_right _ hi
   omega
  rw [World.ownsRow.cellAt h' _ hlt, fm_at hen l i j hi hj]
theorem OwnE.set {e : TypeId} {sz : Nat} {en : α → List Value} (hen : ∀ x, (en x).length = sz) {w : World} {base g n cap i j : Nat} {l : List α} {x' : α} {u : Value} (h : OwnE e sz en w base (.slice (some ⟨g, 0, none⟩) n cap) l) (hn : l.length = n) (hi : i < n) (hj : j < sz) (he : en x' = (en (l.getD i default)).set j u) :
 OwnE e sz en (w.setCell ⟨g, i * sz + j, none⟩ u) base (.slice (some ⟨g, 0, none⟩) n cap) (l.set i x') := by
 unfold OwnE at h ⊢
 rw [hn] at h
 rw [List.length_set, hn, ← fm_set hen l i j (by omega) hj he]
 exact (World.ownsRow.stored h _ u).1
theorem OwnE.cell {e : TypeId} {sz : Nat} {en : α → List Value} (hen : ∀ x, (en x).length = sz) {w : World} {base g n cap : Nat} {l : List α} (h : OwnE e sz en w base (.slice (some ⟨g, 0, none⟩) n cap) l) (hn : l.length = n) {i j : Nat} (hi : i < n) (hj : j < sz) :
 w.cell? ⟨g, i * sz + j, none⟩ = (en (l.getD i default))[j]? ∧ w.frozen? ⟨g, i * sz + j, none⟩ = false := by
 unfold OwnE at h
 rw [hn] at h
 have hlt : i * sz + j < n * sz := by
  have : i * sz + sz ≤ n * sz := by rw [← Nat.succ_mul]; exact Nat.mul_le_mul_right _ hi
  omega
 exact ⟨by rw [World.ownsRow.cellAt h _ hlt, fm_at hen l i j (by omega) hj], h.frozenAt _⟩
theorem appE {P : Program} {S e : TypeId} {sz by_ : Nat} {en : α → List Value} (T : ElT P S e sz by_ en) {w : World} {base : Nat} {v u : Value} {l m : List α} (hown : OwnE e sz en w base v l) (ha : EL sz en w u m) (hb : base ≤ w.heap.size) (hsm : l.length ≤ 1000000) (hsm2 : m.length ≤ 1000000) :
 ∃ v' w', (Builtin.append_ #[S, S] S #[v, u]).run P w = .ok v' w' ∧ OwnE e sz en w' base v' (l ++ m) ∧ w.grownBy w' v.ownBlock ∧ (v'.ownBlock = v.ownBlock ∨ v'.ownBlock = some w.heap.size) ∧ (m ≠ [] → v' ≠ .slice none 0 0) := by
 obtain ⟨i0, z, hi, hz0, hz1, hz2, hz3⟩ := T.info
 have ht := T.und
 obtain ⟨A, cap, rfl, h⟩ := ha
 cases m with
 | nil =>
   refine ⟨v, w, ?_, by simpa using hown, ⟨rfl, rfl, rfl, Nat.le_refl _, fun _ _ _ => rfl⟩, .inl rfl, fun h => absurd rfl h⟩
   rcases hown.2 with ⟨rfl, _⟩ | ⟨g, cap', cur, rfl, _, _, hnc, _⟩
   ·cases A <;> simp [Builtin.append_, run_underlying ht, sizeOf, typeInfo, hi, Builtin.lenOf, Builtin.firstCells, loadCells, loadCellsFrom, storeCells]
   ·cases A <;> simp [Builtin.append_, run_underlying ht, sizeOf, typeInfo, hi, Builtin.lenOf, Builtin.firstCells, hnc, loadCells, loadCellsFrom, storeCells]
 | cons x m =>
   obtain ⟨g, off, rfl, hg, hc, hcell⟩ := h (by simp)
   have hby := T.small
   obtain ⟨v', w', hrun, k1, k2, k3, k4⟩ := run_append_own_at (P := P) w base S S e i0 z sz by_ ht hi hz0 hz1 hz2 hz3 T.pos v l.length _ hown ⟨g, off, none⟩ (x :: m).length cap ((x :: m).flatMap en) (fm_len T.len _)
    (fun j u hj => by
      have hj2 : j < (x :: m).length * sz := by rw [← fm_len T.len]; exact (List.getElem?_eq_some_iff.1 hj).1
      have hp := T.pos
      have hd : j / sz < (x :: m).length := (Nat.div_lt_iff_lt_mul hp).2 hj2
      have hm := Nat.mod_lt j hp
      have e1 : j / sz * sz + j % sz = j := by rw [Nat.mul_comm]; exact Nat.div_add_mod j sz
      have c0 := hcell (j / sz) hd (j % sz) hm
      have q0 := fm_at T.len (x :: m) (j / sz) (j % sz) hd hm
      rw [e1, hj] at q0
      rw [← q0, Nat.add_assoc, e1] at c0
      rw [add_plain]; exact c0) (by intro u hu; obtain ⟨y, _, hy⟩ := List.mem_flatMap.1 hu; exact T.one y u hy) (by unfold maxLen; omega) (by
       have : (l.length + (x :: m).length) * by_ ≤ 2000000 * 1000 := Nat.mul_le_mul (by omega) hby
       omega) hb
   refine ⟨v', w', hrun, ?_, k2, k4, fun _ h => by have := (k3.1 h).2; simp at this⟩
   unfold OwnE
   rw [List.length_append, List.flatMap_append]
   exact k1
theorem els_open {H : Type} {enc : TypeId × Value → H} {P : Program} {W : World} {t e : TypeId} {sz : Nat} {en : α → List Value} {Ok : α → Prop} (ht : P.underlying t = some (.slice e)) (hc : P.cellsOf e = sz) (hp : 0 < sz)
 (hel : ∀ fuel cs x, cs.length = sz → DataW.trod enc P W 0 (fun _ => true) true fuel e cs = some x → ∃ a : α, Ok a ∧ cs = en a)
 {ad : Option Addr} {len cap : Nat} {d : DataW H} {p : List MemPlace}
 (h : DataW.Trod enc P W 0 (fun _ => true) true t (.slice ad len cap) d p) : ∃ l : List α, (l.length ≤ 9223372036854775807 ∧ ∀ x ∈ l, Ok x) ∧ EL sz en W (.slice ad len cap) l := by
 obtain ⟨fuel, hf⟩ := h
 rcases open_slice ht hf with ⟨hcs, _⟩ | ⟨a, len', cap', m, n, D, Pl, hcs, hb, hl, hmx, hmm, _, hx⟩
 ·simp [Value.cells] at hcs
  obtain ⟨rfl, rfl, rfl⟩ := hcs
  exact ⟨[], ⟨by simp, fun x hx => by simp at hx⟩, EL.nil _ _ _ _ _⟩
 ·simp [Value.cells] at hcs
  obtain ⟨rfl, rfl, rfl⟩ := hcs
  simp only [if_true] at hmm
  subst hmm
  have hex : ∀ i, i < len → ∃ q : α, Ok q ∧ ∀ j, j < sz → W.cell? (a.add (i * sz + j)) = (en q)[j]? := fun i hil => by
   obtain ⟨cs', h1, h2⟩ := hx i (by omega)
   rw [hc] at h1
   obtain ⟨_, hlen, hcell⟩ := World.cells?_some h1
   obtain ⟨q, ho, rfl⟩ := hel _ _ _ hlen h2
   refine ⟨q, ho, fun j hj => ?_⟩
   have := hcell j hj
   rw [add_add] at this
   rw [this]
  obtain ⟨q, hq⟩ := choose_lt hex
  have hlen : ((List.range len).map q).length = len := by simp
  refine ⟨(List.range len).map q, ⟨by rw [hlen]; unfold maxLen at hmx; omega, fun x hx => ?_⟩, some a, _, by rw [hlen], fun h0 => ?_⟩
  ·obtain ⟨i, hi', rfl⟩ := List.mem_map.1 hx
   exact (hq i (List.mem_range.1 hi')).1
  ·rw [hlen] at h0 ⊢
   obtain ⟨cs0, h01, h02⟩ := hx 0 (by omega)
   rw [hc] at h01
   obtain ⟨_, hl0, hc0⟩ := World.cells?_some h01
   have hc00 := hc0 0 hp
   rw [List.getElem?_eq_getElem (by omega)] at hc00
   have hsp : a.spot = none := by
    have := spot_none hc00
    unfold Addr.add at this
    simpa using this
   obtain ⟨g, off, sp⟩ := a
   simp only at hsp
   subst hsp
   refine ⟨g, off, rfl, ?_, by omega, fun i hil j hj => ?_⟩
   ·have := World.block_lt_of_cell? _ _ hc00
    simpa [add_plain] using this
   ·have e : ((List.range len).map q).getD i default = q i := by
     rw [List.getD_eq_getElem?_getD, List.getElem?_map, List.getElem?_range hil]
     rfl
    rw [e, ← (hq i hil).2 j hj, add_plain, Nat.add_assoc]
end
theorem wpList_append_run {P : Program} {w w' : World} {ops : Array Oper} {rest : List Oper} {o : Oper} {a : Act} {Q : Exit → Act → World → Prop} (hg : o.guard = none) (s x : Operand) (t : TypeId)
 (hop : o.op = Op.call { callee := Callee.builtin Builtin.append, args := #[s, x], argTypes := #[t, t] }) (vs vx v : Value) (hs : a.eval s = vs) (hx : a.eval x = vx)
 (hrun : (Builtin.append_ #[t, t] o.type #[vs, vx]).run P w = .ok v w') (h : wpList P ops Q rest (a.put o.dst v) w') : wpList P ops Q (o :: rest) a w := by
 refine wpList_plain hg fun K hK => ?_
 unfold Oper.wp
 simp [execOp, hop, resolve, invoke, builtin, hs, hx, hrun, Result.andThen]
 exact hK _ _ h
end Go.Proofs.YtkkbngcgphlikaaGreatDoor
end
section
namespace Go.Proofs.YtkkbngcgphlikaaGreatDoor
open Go.RowKit
def lowI (x m : Int) : Int := x % 2 ^ m.toNat
def getI (w a m : Int) : Int := ((getN w.toNat a.toNat m.toNat : Nat) : Int)
def putI (w a m v : Int) : Int := ((putN w.toNat a.toNat m.toNat v.toNat : Nat) : Int)
theorem fits_yes (a m : Int) (w : World) (h0 : 0 ≤ a) (h1 : 1 ≤ m) (h2 : m ≤ 64) (h3 : a ≤ 64 - m) :
 Calls Tryz.prog 184 #[.int .i64 a, .int .i64 m] w fun e w' => e = .returned (.bool true) ∧ w = w' := by
 go_enter Tryz.func184, Tryz.ntmps184
 go_wp2
 go_ret
 exact ⟨rfl, rfl⟩
theorem lowest_any (x m : Int) (w : World) (h0 : 0 ≤ x) (h1 : x < 18446744073709551616) (h2 : 0 ≤ m) (h : m ≤ 64) :
 Calls Tryz.prog 185 #[.int .u64 x, .int .i64 m] w fun e w' => e = .returned (.int .u64 (lowI x m)) ∧ w = w' := by
 by_cases h64 : m = 64
 ·subst h64
  go_enter Tryz.func185, Tryz.ntmps185
  go_wp2
  go_ret
  refine ⟨?_, rfl⟩
  show Ending.returned (.int .u64 x) = _
  unfold lowI
  rw [show ((64 : Int).toNat) = 64 from rfl, show ((2 : Int) ^ 64) = 18446744073709551616 from by decide, Int.emod_eq_of_lt h0 h1]
 ·have hlt : m < 64 := by omega
  go_enter Tryz.func185, Tryz.ntmps185
  go_wp2
  go_ret
  refine ⟨?_, rfl⟩
  rw [low_walk x m.toNat h0 h1 (by omega)]
  rfl
theorem get_yes (x a m : Int) (w : World) (h0 : 0 ≤ x) (h1 : x < 18446744073709551616) (ha : 0 ≤ a) (hm : 1 ≤ m) (h2 : m ≤ 64) (h3 : a ≤ 64 - m) :
 Calls Tryz.prog 165 #[.int .u64 x, .int .i64 a, .int .i64 m] w fun e w' => e = .returned (.int .u64 (getI x a m)) ∧ w = w' := by
 have h63 : a < 64 := by omega
 go_enter Tryz.func165, Tryz.ntmps165
 have hs := shr_bd x a.toNat h0 h1
 go_wp2_with (first | (go_at_call 184; refine (fits_yes _ _ _ ha hm h2 h3).mono ?_; rintro e w' ⟨rfl, rfl⟩) | (go_at_call 185; refine (lowest_any _ m _ hs.1 hs.2 (by omega) h2).mono ?_; rintro e w' ⟨rfl, rfl⟩))
 go_ret
 refine ⟨?_, rfl⟩
 show Ending.returned (.int .u64 (lowI (x / 2 ^ a.toNat) m)) = _
 unfold lowI getI getN
 obtain ⟨X, rfl⟩ := Int.eq_ofNat_of_zero_le h0
 rw [Int.natCast_emod, Int.natCast_ediv, Int.natCast_pow, Int.natCast_pow]
 rfl
theorem put_yes (x a m v : Int) (w : World) (h0 : 0 ≤ x) (h1 : x < 18446744073709551616) (ha : 0 ≤ a) (hm : 1 ≤ m) (h2 : m ≤ 64) (h3 : a ≤ 64 - m) (hv0 : 0 ≤ v) (hv1 : v < 18446744073709551616) :
 Calls Tryz.prog 156 #[.int .u64 x, .int .i64 a, .int .i64 m, .int .u64 v] w fun e w' => e = .returned (.int .u64 (putI x a m v)) ∧ w = w' := by
 have h63 : a < 64 := by omega
 go_enter Tryz.func156, Tryz.ntmps156
 go_wp2_with (first | (go_at_call 184; refine (fits_yes _ _ _ ha hm h2 h3).mono ?_; rintro e w' ⟨rfl, rfl⟩) | (go_at_call 185; refine (lowest_any _ m _ (by omega) (by omega) (by omega) h2).mono ?_; rintro e w' ⟨rfl, rfl⟩))
 go_ret
 refine ⟨?_, rfl⟩
 show Ending.returned (.int .u64 (bits BinOp.or IntKind.u64 (bits BinOp.andNot IntKind.u64 x (IntKind.u64.wrap (lowI 18446744073709551615 m * 2 ^ a.toNat))) (IntKind.u64.wrap (lowI v m * 2 ^ a.toNat)))) = _
 unfold lowI putI
 rw [put_walk x v a.toNat m.toNat h0 h1 hv0 (by omega)]
theorem getI_bd (x a m : Int) (h0 : 0 ≤ x) (h1 : x < 18446744073709551616) : 0 ≤ getI x a m ∧ getI x a m < 18446744073709551616 := by
 unfold getI getN
 have h2 : x.toNat / 2 ^ a.toNat % 2 ^ m.toNat ≤ x.toNat := Nat.le_trans (Nat.mod_le _ _) (Nat.div_le_self _ _)
 omega
end Go.Proofs.YtkkbngcgphlikaaGreatDoor
end
section
namespace Go.Proofs.YtkkbngcgphlikaaGreatDoor
def swL (d : List Nat) (i j : Nat) : List Nat := (d.set i (d.getD j 0)).set j (d.getD i 0)
theorem getD_set_ {d : List Nat} {i k x : Nat} (hi : i < d.length) : (d.set i x).getD k 0 = if k = i then x else d.getD k 0 := by
 rw [List.getD_eq_getElem?_getD, List.getD_eq_getElem?_getD, List.getElem?_set]
 by_cases h : i = k
 ·subst h; rw [if_pos rfl, if_pos rfl, if_pos hi]; rfl
 ·rw [if_neg h, if_neg (fun e => h e.symm)]
theorem swL_len (d : List Nat) (i j : Nat) : (swL d i j).length = d.length := by unfold swL; rw [List.length_set, List.length_set]
theorem swL_at {d : List Nat} {i j : Nat} (hi : i < d.length) (hj : j < d.length) (k : Nat) : (swL d i j).getD k 0 = if k = j then d.getD i 0 else if k = i then d.getD j 0 else d.getD k 0 := by
 unfold swL
 rw [getD_set_ (by rw [List.length_set]; exact hj), getD_set_ hi]
theorem count_set {d : List Nat} {i x : Nat} (hi : i < d.length) (z : Nat) : (d.set i x).count z + (if d.getD i 0 = z then 1 else 0) = d.count z + (if x = z then 1 else 0) := by
 induction d generalizing i with
 | nil => simp at hi
 | cons y d ih =>
   cases i with
   | zero =>
     rw [List.set_cons_zero, List.count_cons, List.count_cons, List.getD_cons_zero]
     simp only [beq_iff_eq]
     by_cases h1 : x = z <;> by_cases h2 : y = z <;> simp [h1, h2]
   | succ i =>
     rw [List.set_cons_succ, List.count_cons, List.count_cons, List.getD_cons_succ]
     have := ih (by simpa using hi)
     omega
theorem swL_perm {d : List Nat} {i j : Nat} (hi : i < d.length) (hj : j < d.length) : (swL d i j).Perm d := by
 rw [List.perm_iff_count]
 intro z
 unfold swL
 have h1 := count_set (d := d) (i := i) (x := d.getD j 0) hi z
 have h2 := count_set (d := d.set i (d.getD j 0)) (i := j) (x := d.getD i 0) (by rw [List.length_set]; exact hj) z
 rw [getD_set_ hi] at h2
 by_cases e : j = i
 ·subst e; rw [if_pos rfl] at h2; omega
 ·rw [if_neg e] at h2; omega
structure Mv (lo hi : Nat) (d e : List Nat) : Prop where
 len : e.length = d.length
 perm : e.Perm d
 out : ∀ i, ¬ (lo ≤ i ∧ i < hi) → e.getD i 0 = d.getD i 0
 inn : ∀ i, lo ≤ i → i < hi → ∃ j, lo ≤ j ∧ j < hi ∧ e.getD i 0 = d.getD j 0
theorem Mv.refl (lo hi : Nat) (d : List Nat) : Mv lo hi d d := ⟨rfl, List.Perm.refl _, fun _ _ => rfl, fun i h1 h2 => ⟨i, h1, h2, rfl⟩⟩
theorem Mv.trans {lo hi : Nat} {d e f : List Nat} (h : Mv lo hi d e) (g : Mv lo hi e f) : Mv lo hi d f :=
 ⟨g.len.trans h.len, g.perm.trans h.perm, fun i hi => (g.out i hi).trans (h.out i hi), fun i h1 h2 => by
   obtain ⟨j, j1, j2, e1⟩ := g.inn i h1 h2
   obtain ⟨k, k1, k2, e2⟩ := h.inn j j1 j2
   exact ⟨k, k1, k2, e1.trans e2⟩⟩
theorem Mv.wide {lo hi lo2 hi2 : Nat} {d e : List Nat} (h : Mv lo hi d e) (h1 : lo2 ≤ lo) (h2 : hi ≤ hi2) : Mv lo2 hi2 d e :=
 ⟨h.len, h.perm, fun i hi => h.out i (by omega), fun i j1 j2 => by
   by_cases q : lo ≤ i ∧ i < hi
   ·obtain ⟨j, a, b, c⟩ := h.inn i q.1 q.2
    exact ⟨j, by omega, by omega, c⟩
   ·exact ⟨i, j1, j2, h.out i q⟩⟩
theorem Mv.swap {lo hi i j : Nat} {d : List Nat} (h1 : lo ≤ i) (h2 : i < hi) (h3 : lo ≤ j) (h4 : j < hi) (hl : hi ≤ d.length) : Mv lo hi d (swL d i j) := by
 refine ⟨swL_len _ _ _, swL_perm (by omega) (by omega), fun k hk => ?_, fun k k1 k2 => ?_⟩
 ·rw [swL_at (by omega) (by omega), if_neg (by omega), if_neg (by omega)]
 ·rw [swL_at (by omega) (by omega)]
  by_cases e1 : k = j
  ·rw [if_pos e1]; exact ⟨i, h1, h2, rfl⟩
  ·rw [if_neg e1]
   by_cases e2 : k = i
   ·rw [if_pos e2]; exact ⟨j, h3, h4, rfl⟩
   ·rw [if_neg e2]; exact ⟨k, k1, k2, rfl⟩
def Srt (g : Nat → Int) (d : List Nat) (lo hi : Nat) : Prop := ∀ i j, lo ≤ i → i < j → j < hi → g (d.getD i 0) < g (d.getD j 0)
def Lss (g : Nat → Int) (d : List Nat) (lo hi lo2 hi2 : Nat) : Prop := ∀ i j, lo ≤ i → i < hi → lo2 ≤ j → j < hi2 → g (d.getD i 0) < g (d.getD j 0)
theorem Srt.join {g : Nat → Int} {d : List Nat} {lo mid hi : Nat} (h1 : Srt g d lo mid) (h2 : Srt g d mid hi) (h : Lss g d lo mid mid hi) : Srt g d lo hi := by
 intro i j a b c
 by_cases q : j < mid
 ·exact h1 i j a b q
 ·by_cases q2 : i < mid
  ·exact h i j a q2 (by omega) c
  ·exact h2 i j (by omega) b c
theorem Srt.mono {g : Nat → Int} {d : List Nat} {lo hi lo2 hi2 : Nat} (h : Srt g d lo hi) (h1 : lo ≤ lo2) (h2 : hi2 ≤ hi) : Srt g d lo2 hi2 := fun i j a b c => h i j (by omega) b (by omega)
theorem Srt.same {g : Nat → Int} {d e : List Nat} {lo hi : Nat} (h : Srt g d lo hi) (hs : ∀ i, lo ≤ i → i < hi → e.getD i 0 = d.getD i 0) : Srt g e lo hi := fun i j a b c => by
 rw [hs i a (by omega), hs j (by omega) c]; exact h i j a b c
theorem Srt.short {g : Nat → Int} {d : List Nat} {lo hi : Nat} (h : hi ≤ lo + 1) : Srt g d lo hi := fun i j a b c => by omega
theorem Lss.mv1 {g : Nat → Int} {d e : List Nat} {lo mid hi : Nat} (h : Lss g d lo mid mid hi) (m : Mv lo mid d e) : Lss g e lo mid mid hi := fun i j a b c k => by
 obtain ⟨i', q1, q2, e1⟩ := m.inn i a b
 rw [e1, m.out j (by omega)]
 exact h i' j q1 q2 c k
theorem Lss.mv2 {g : Nat → Int} {d e : List Nat} {lo mid hi : Nat} (h : Lss g d lo mid mid hi) (m : Mv mid hi d e) : Lss g e lo mid mid hi := fun i j a b c k => by
 obtain ⟨j', q1, q2, e1⟩ := m.inn j c k
 rw [e1, m.out i (by omega)]
 exact h i j' a b q1 q2
def swF (d : List Nat) (x y n : Nat) (k : Nat) : Nat := if x ≤ k ∧ k < x + n then d.getD (k - x + y) 0 else if y ≤ k ∧ k < y + n then d.getD (k - y + x) 0 else d.getD k 0
def SwR (d e : List Nat) (x y n : Nat) : Prop := e.length = d.length ∧ ∀ k, e.getD k 0 = swF d x y n k
theorem SwR.zero (d : List Nat) (x y : Nat) : SwR d d x y 0 := ⟨rfl, fun k => by unfold swF; rw [if_neg (by omega), if_neg (by omega)]⟩
theorem SwR.step {d e : List Nat} {x y n : Nat} (h : SwR d e x y n) (hx : x + n < y) (hy : y + n < d.length) : SwR d (swL e (x + n) (y + n)) x y (n + 1) := by
 obtain ⟨h1, h2⟩ := h
 refine ⟨by rw [swL_len, h1], fun k => ?_⟩
 rw [swL_at (by omega) (by omega), h2, h2, h2]
 unfold swF
 by_cases e1 : k = y + n
 ·subst e1
  rw [if_pos rfl, if_neg (by omega), if_neg (by omega), if_neg (by omega), if_pos (by omega)]
  congr 1; omega
 ·rw [if_neg e1]
  by_cases e2 : k = x + n
  ·subst e2
   rw [if_pos rfl, if_neg (by omega), if_neg (by omega), if_pos (by omega)]
   congr 1; omega
  ·rw [if_neg e2]
   by_cases q1 : x ≤ k ∧ k < x + n
   ·rw [if_pos q1, if_pos (by omega)]
   ·by_cases q2 : y ≤ k ∧ k < y + n
    ·rw [if_neg q1, if_pos q2, if_neg (by omega), if_pos (by omega)]
    ·rw [if_neg q1, if_neg q2, if_neg (by omega), if_neg (by omega)]
def rotF (d : List Nat) (lo m hi : Nat) (k : Nat) : Nat := if lo ≤ k ∧ k < hi then (if k < lo + (hi - m) then d.getD (k - lo + m) 0 else d.getD (k - (hi - m)) 0) else d.getD k 0
theorem rot_left {d e : List Nat} {lo m hi : Nat} (h : SwR d e lo m (hi - m)) (h1 : hi - m < m - lo) (h2 : m ≤ hi) (k : Nat) : rotF e (lo + (hi - m)) m hi k = rotF d lo m hi k := by
 have q := h.2
 unfold rotF
 by_cases k1 : lo ≤ k ∧ k < hi
 ·by_cases k2 : k < lo + (hi - m)
  ·rw [if_neg (by omega), if_pos k1, if_pos k2, q]
   unfold swF
   rw [if_pos (by omega)]
  ·rw [if_pos (by omega), if_pos k1, if_neg k2]
   by_cases k3 : k < lo + (hi - m) + (hi - m)
   ·rw [if_pos k3, q]
    unfold swF
    rw [if_neg (by omega), if_pos (by omega)]
    congr 1; omega
   ·rw [if_neg k3, q]
    unfold swF
    rw [if_neg (by omega), if_neg (by omega)]
 ·rw [if_neg (by omega), if_neg k1, q]
  unfold swF
  rw [if_neg (by omega), if_neg (by omega)]
theorem rot_right {d e : List Nat} {lo m hi : Nat} (h : SwR d e lo (hi - (m - lo)) (m - lo)) (h1 : m - lo < hi - m) (h2 : lo ≤ m) (k : Nat) : rotF e lo m (hi - (m - lo)) k = rotF d lo m hi k := by
 have q := h.2
 unfold rotF
 by_cases k1 : lo ≤ k ∧ k < hi
 ·by_cases k2 : k < hi - (m - lo)
  ·rw [if_pos (by omega), if_pos k1]
   by_cases k3 : k < lo + (hi - (m - lo) - m)
   ·rw [if_pos k3, if_pos (by omega), q]
    unfold swF
    rw [if_neg (by omega), if_neg (by omega)]
   ·rw [if_neg k3, if_pos (by omega), q]
    unfold swF
    rw [if_pos (by omega)]
    congr 1; omega
  ·rw [if_neg (by omega), if_pos k1, q, if_neg (by omega)]
   unfold swF
   rw [if_neg (by omega), if_pos (by omega)]
   congr 1; omega
 ·rw [if_neg (by omega), if_neg k1, q]
  unfold swF
  rw [if_neg (by omega), if_neg (by omega)]
theorem rot_even {d e : List Nat} {lo m hi : Nat} (h : SwR d e lo m (m - lo)) (h1 : m - lo = hi - m) (h2 : lo ≤ m) (h3 : m ≤ hi) (k : Nat) : e.getD k 0 = rotF d lo m hi k := by
 rw [h.2]
 unfold swF rotF
 by_cases k1 : lo ≤ k ∧ k < hi
 ·rw [if_pos k1]
  by_cases k2 : k < lo + (hi - m)
  ·rw [if_pos (by omega), if_pos k2]
  ·rw [if_neg (by omega), if_pos (by omega), if_neg k2]
   congr 1; omega
 ·rw [if_neg (by omega), if_neg (by omega), if_neg k1]
def nI (x : Nat) : Int := x
structure Key (N : Nat) (f g : Nat → Int) : Prop where
 lt : ∀ x y, y < x → x < N → f x < f y → g x < g y
 ge : ∀ x y, y < x → x < N → ¬ f x < f y → g y < g x
theorem key_mk (N : Nat) (f : Nat → Int) : Key N f (fun x => f x * N + x) := by
 refine ⟨fun x y h hx hf => ?_, fun x y h hx hf => ?_⟩
 ·have h1 : f x + 1 ≤ f y := by omega
  have h2 : (f x + 1) * (N : Int) ≤ f y * N := Int.mul_le_mul_of_nonneg_right h1 (by omega)
  rw [Int.add_mul] at h2
  show f x * N + x < f y * N + y
  omega
 ·have h1 : f y ≤ f x := by omega
  have h2 : f y * (N : Int) ≤ f x * N := Int.mul_le_mul_of_nonneg_right h1 (by omega)
  show f y * N + y < f x * N + x
  omega
structure Cut (g : Nat → Int) (d : List Nat) (a m b s0 r0 start e : Nat) : Prop where
 am : a < m
 mb : m < b
 bd : a ≤ s0 ∧ s0 ≤ start ∧ start ≤ r0 ∧ r0 ≤ m ∧ r0 ≤ (a + b) / 2 ∧ (a + b) / 2 + m ≤ s0 + b
 rr : r0 = m ∨ r0 = (a + b) / 2
 ss : s0 = a ∨ s0 + b = (a + b) / 2 + m
 ee : e + start = (a + b) / 2 + m
 lo : ∀ c, s0 ≤ c → c < start → g (d.getD c 0) < g (d.getD ((a + b) / 2 + m - 1 - c) 0)
 hi : ∀ c, start ≤ c → c < r0 → g (d.getD ((a + b) / 2 + m - 1 - c) 0) < g (d.getD c 0)
theorem rotF_a {d : List Nat} {lo m hi k : Nat} (h : ¬ (lo ≤ k ∧ k < hi)) : rotF d lo m hi k = d.getD k 0 := by unfold rotF; rw [if_neg h]
theorem rotF_b {d : List Nat} {lo m hi k : Nat} (h : lo ≤ k) (h2 : k < lo + (hi - m)) (h3 : lo ≤ m) (h4 : m ≤ hi) : rotF d lo m hi k = d.getD (k - lo + m) 0 := by unfold rotF; rw [if_pos (by omega), if_pos h2]
theorem rotF_c {d : List Nat} {lo m hi k : Nat} (h : lo + (hi - m) ≤ k) (h2 : k < hi) (h3 : lo ≤ m) (h4 : m ≤ hi) : rotF d lo m hi k = d.getD (k - (hi - m)) 0 := by unfold rotF; rw [if_pos (by omega), if_neg (by omega)]
theorem Cut.left {g k : Nat → Int} {d e : List Nat} {a m b s0 r0 start en : Nat} (c : Cut g d a m b s0 r0 start en) (h2 : Lss k d a m m b) (hr : ∀ i, e.getD i 0 = rotF d start m en i) : Lss k e a start start ((a + b) / 2) := by
 have hs0 := c.bd; have he := c.ee; have h3 := c.am; have h4 := c.mb
 intro i j i1 i2 j1 j2
 rw [hr, hr, rotF_a (by omega), rotF_b (by omega) (by omega) (by omega) (by omega)]
 exact h2 _ _ (by omega) (by omega) (by omega) (by omega)
theorem Cut.right {g k : Nat → Int} {d e : List Nat} {a m b s0 r0 start en : Nat} (c : Cut g d a m b s0 r0 start en) (h2 : Lss k d a m m b) (hr : ∀ i, e.getD i 0 = rotF d start m en i) : Lss k e ((a + b) / 2) en en b := by
 have hs0 := c.bd; have he := c.ee; have h3 := c.am; have h4 := c.mb
 intro i j i1 i2 j1 j2
 rw [hr, hr, rotF_c (by omega) (by omega) (by omega) (by omega), rotF_a (by omega)]
 exact h2 _ _ (by omega) (by omega) (by omega) (by omega)
theorem Cut.srt {g : Nat → Int} {d e : List Nat} {a m b s0 r0 start en : Nat} (c : Cut g d a m b s0 r0 start en) (l : Srt g d a m) (r : Srt g d m b) (hr : ∀ i, e.getD i 0 = rotF d start m en i) :
 Srt g e a start ∧ Srt g e start ((a + b) / 2) ∧ Srt g e ((a + b) / 2) en ∧ Srt g e en b := by
 have hs0 := c.bd; have he := c.ee; have h3 := c.am; have h4 := c.mb
 refine ⟨fun i j i1 i2 i3 => ?_, fun i j i1 i2 i3 => ?_, fun i j i1 i2 i3 => ?_, fun i j i1 i2 i3 => ?_⟩
 ·rw [hr, hr, rotF_a (by omega), rotF_a (by omega)]; exact l _ _ (by omega) (by omega) (by omega)
 ·rw [hr, hr, rotF_b (by omega) (by omega) (by omega) (by omega), rotF_b (by omega) (by omega) (by omega) (by omega)]; exact r _ _ (by omega) (by omega) (by omega)
 ·rw [hr, hr, rotF_c (by omega) (by omega) (by omega) (by omega), rotF_c (by omega) (by omega) (by omega) (by omega)]; exact l _ _ (by omega) (by omega) (by omega)
 ·rw [hr, hr, rotF_a (by omega), rotF_a (by omega)]; exact r _ _ (by omega) (by omega) (by omega)
theorem le_of_srt {g : Nat → Int} {d : List Nat} {lo hi i j : Nat} (h : Srt g d lo hi) (h1 : lo ≤ i) (h2 : i ≤ j) (h3 : j < hi) : g (d.getD i 0) ≤ g (d.getD j 0) := by
 by_cases e : i = j
 ·subst e; exact Int.le_refl _
 ·exact Int.le_of_lt (h i j h1 (by omega) h3)
theorem Cut.mid {g : Nat → Int} {d e : List Nat} {a m b s0 r0 start en : Nat} (c : Cut g d a m b s0 r0 start en) (l : Srt g d a m) (r : Srt g d m b) (hr : ∀ i, e.getD i 0 = rotF d start m en i) :
 Lss g e a ((a + b) / 2) ((a + b) / 2) b := by
 have hs0 := c.bd; have he := c.ee; have h3 := c.am; have h4 := c.mb; have hr0 := c.rr; have hs1 := c.ss
 intro i j i1 i2 j1 j2
 rw [hr, hr]
 by_cases q1 : i < start
 ·rw [rotF_a (by omega)]
  by_cases q2 : j < en
  ·rw [rotF_c (by omega) (by omega) (by omega) (by omega)]
   exact l _ _ (by omega) (by omega) (by omega)
  ·rw [rotF_a (by omega)]
   -- a beginning of the left one against an end of the right one
   have hgt : s0 < start ∨ s0 = start := by omega
   rcases hgt with hgt | hgt
   ·have k1 := c.lo (start - 1) (by omega) (by omega)
    have e1 : (a + b) / 2 + m - 1 - (start - 1) = en := by omega
    rw [e1] at k1
    have k2 := le_of_srt l (i := i) (j := start - 1) (by omega) (by omega) (by omega)
    have k3 := le_of_srt r (i := en) (j := j) (by omega) (by omega) (by omega)
    omega
   ·rcases hs1 with hs1 | hs1
    ·omega
    ·omega
 ·rw [rotF_b (by omega) (by omega) (by omega) (by omega)]
  by_cases q2 : j < en
  ·rw [rotF_c (by omega) (by omega) (by omega) (by omega)]
   have hgt : start < r0 ∨ start = r0 := by omega
   rcases hgt with hgt | hgt
   ·have k1 := c.hi start (by omega) hgt
    have k2 := le_of_srt l (i := start) (j := j - (en - m)) (by omega) (by omega) (by omega)
    have k3 := le_of_srt r (i := i - start + m) (j := (a + b) / 2 + m - 1 - start) (by omega) (by omega) (by omega)
    omega
   ·omega
  ·rw [rotF_a (by omega)]
   exact r _ _ (by omega) (by omega) (by omega)
theorem find_lo {g : Nat → Int} {d : List Nat} {a m b s0 c p : Nat} (l : Srt g d a m) (r : Srt g d m b) (h : g (d.getD c 0) < g (d.getD (p - c) 0)) (h1 : a ≤ s0) (h2 : c < m) (h3 : p < s0 + b) (h4 : m + c ≤ p) :
 ∀ k, s0 ≤ k → k < c + 1 → g (d.getD k 0) < g (d.getD (p - k) 0) := fun k k1 k2 => by
 have q1 := le_of_srt l (i := k) (j := c) (by omega) (by omega) (by omega)
 have q2 := le_of_srt r (i := p - c) (j := p - k) (by omega) (by omega) (by omega)
 omega
theorem find_hi {g : Nat → Int} {d : List Nat} {a m b s0 c p r0 : Nat} (l : Srt g d a m) (r : Srt g d m b) (h : g (d.getD (p - c) 0) < g (d.getD c 0)) (h1 : a ≤ s0) (h2 : s0 ≤ c) (h3 : p < s0 + b) (h4 : r0 ≤ m) (h5 : m + r0 ≤ p + 1) :
 ∀ k, c ≤ k → k < r0 → g (d.getD (p - k) 0) < g (d.getD k 0) := fun k k1 k2 => by
 have q1 := le_of_srt l (i := c) (j := k) (by omega) (by omega) (by omega)
 have q2 := le_of_srt r (i := p - k) (j := p - c) (by omega) (by omega) (by omega)
 omega
theorem Srt.mv {g : Nat → Int} {d e : List Nat} {lo hi lo2 hi2 : Nat} (h : Srt g d lo2 hi2) (m : Mv lo hi d e) (ho : hi ≤ lo2 ∨ hi2 ≤ lo) : Srt g e lo2 hi2 := h.same fun i i1 i2 => m.out i (by omega)
theorem Lss.mvA {g : Nat → Int} {d e : List Nat} {lo hi lo1 hi1 lo2 hi2 : Nat} (h : Lss g d lo1 hi1 lo2 hi2) (m : Mv lo hi d e) (h1 : (hi ≤ lo1 ∨ hi1 ≤ lo) ∨ (lo1 ≤ lo ∧ hi ≤ hi1)) (h2 : (hi ≤ lo2 ∨ hi2 ≤ lo) ∨ (lo2 ≤ lo ∧ hi ≤ hi2)) : Lss g e lo1 hi1 lo2 hi2 := fun i j i1 i2 j1 j2 => by
 have q1 : ∃ i', lo1 ≤ i' ∧ i' < hi1 ∧ e.getD i 0 = d.getD i' 0 := by
  by_cases q : lo ≤ i ∧ i < hi
  ·obtain ⟨i', a, b, c⟩ := m.inn i q.1 q.2
   exact ⟨i', by omega, by omega, c⟩
  ·exact ⟨i, i1, i2, m.out i q⟩
 have q2 : ∃ j', lo2 ≤ j' ∧ j' < hi2 ∧ e.getD j 0 = d.getD j' 0 := by
  by_cases q : lo ≤ j ∧ j < hi
  ·obtain ⟨j', a, b, c⟩ := m.inn j q.1 q.2
   exact ⟨j', by omega, by omega, c⟩
  ·exact ⟨j, j1, j2, m.out j q⟩
 obtain ⟨i', a1, a2, a3⟩ := q1
 obtain ⟨j', b1, b2, b3⟩ := q2
 rw [a3, b3]
 exact h i' j' a1 a2 b1 b2
def insF (d : List Nat) (i j k : Nat) : Nat := if k = j then d.getD i 0 else if j < k ∧ k ≤ i then d.getD (k - 1) 0 else d.getD k 0
structure Ins (d e : List Nat) (a i j : Nat) : Prop where
 at_ : ∀ k, e.getD k 0 = insF d i j k
 mv : Mv a (i + 1) d e
theorem Ins.start (d : List Nat) (a i : Nat) : Ins d d a i i := ⟨fun k => by
 unfold insF
 by_cases h : k = i
 ·rw [if_pos h, h]
 ·rw [if_neg h, if_neg (by omega)], Mv.refl _ _ _⟩
theorem Ins.step {d e : List Nat} {a i j : Nat} (h : Ins d e a i (j + 1)) (ha : a ≤ j) (hj : j + 1 ≤ i) (hi : i < d.length) : Ins d (swL e (j + 1) j) a i j := by
 have hl := h.mv.len
 refine ⟨fun k => ?_, h.mv.trans (Mv.swap (by omega) (by omega) (by omega) (by omega) (by omega))⟩
 rw [swL_at (by omega) (by omega), h.at_, h.at_, h.at_]
 unfold insF
 by_cases e1 : k = j
 ·subst e1
  rw [if_pos rfl, if_pos rfl, if_pos rfl]
 ·rw [if_neg e1, if_neg e1]
  by_cases e2 : k = j + 1
  ·subst e2
   rw [if_pos rfl, if_neg (by omega), if_neg (by omega), if_pos (by omega)]
   congr 1
  ·rw [if_neg e2, if_neg e2]
   by_cases q : j + 1 < k ∧ k ≤ i
   ·rw [if_pos q, if_pos (by omega)]
   ·rw [if_neg q, if_neg (by omega)]
theorem Ins.done {g : Nat → Int} {d e : List Nat} {a i j : Nat} (h : Ins d e a i j) (hs : Srt g d a i) (hj : a ≤ j) (hji : j ≤ i) (h1 : j = a ∨ g (d.getD (j - 1) 0) < g (d.getD i 0)) (h2 : ∀ q, j ≤ q → q < i → g (d.getD i 0) < g (d.getD q 0)) : Srt g e a (i + 1) := by
 intro p q p1 p2 p3
 rw [h.at_, h.at_]
 unfold insF
 by_cases e1 : p = j
 ·subst e1
  rw [if_pos rfl, if_neg (by omega), if_pos (by omega)]
  exact h2 _ (by omega) (by omega)
 ·rw [if_neg e1]
  by_cases e2 : q = j
  ·subst e2
   rw [if_pos rfl, if_neg (by omega)]
   rcases h1 with h1 | h1
   ·omega
   ·have := le_of_srt hs (i := p) (j := q - 1) p1 (by omega) (by omega)
    omega
  ·rw [if_neg e2]
   by_cases k1 : j < p ∧ p ≤ i
   ·rw [if_pos k1, if_pos (by omega)]
    exact hs _ _ (by omega) (by omega) (by omega)
   ·rw [if_neg k1]
    by_cases k2 : j < q ∧ q ≤ i
    ·rw [if_pos k2]
     by_cases k3 : p = q - 1
     ·omega
     ·exact hs _ _ (by omega) (by omega) (by omega)
    ·rw [if_neg k2]
     exact hs _ _ (by omega) (by omega) (by omega)
theorem Ins.below {g : Nat → Int} {d : List Nat} {i j : Nat} (h : g (d.getD i 0) < g (d.getD j 0)) (h2 : ∀ q, j + 1 ≤ q → q < i → g (d.getD i 0) < g (d.getD q 0)) : ∀ q, j ≤ q → q < i → g (d.getD i 0) < g (d.getD q 0) := fun q q1 q2 => by
 by_cases e : q = j
 ·subst e; exact h
 ·exact h2 q (by omega) q2
theorem srt_pair {g : Nat → Int} {d : List Nat} (h : Srt g d 0 d.length) : d.Pairwise (fun x y => g x < g y) := by
 rw [List.pairwise_iff_getElem]
 intro i j hi hj hij
 have := h i j (by omega) hij hj
 rwa [List.getD_eq_getElem?_getD, List.getD_eq_getElem?_getD, List.getElem?_eq_getElem hi, List.getElem?_eq_getElem hj] at this
theorem asc_lss {d : List Nat} {lo mid hi : Nat} (h : Srt nI d lo hi) : Lss nI d lo mid mid hi := fun i j a b c k => h i j a (by omega) k
theorem nI_lt {d : List Nat} {i j : Nat} (h : nI (d.getD i 0) < nI (d.getD j 0)) : d.getD i 0 < d.getD j 0 := by unfold nI at h; omega
end Go.Proofs.YtkkbngcgphlikaaGreatDoor
end
section
namespace Go.Proofs.YtkkbngcgphlikaaGreatDoor
open Go.RowKit
def Tab (w : World) : Prop := w.cell? ⟨5, 0, none⟩ = some (.int .i64 4) ∧ w.cell? ⟨5, 1, none⟩ = some (.int .i64 8) ∧ w.cell? ⟨5, 2, none⟩ = some (.int .i64 16)
def blkI (c : Int) : Int := if c = 0 then 4 else if c = 1 then 8 else if c = 2 then 16 else 0
def mnyI (c : Int) : Int := if c = 0 then 8 else if c = 1 then 4 else if c = 2 then 2 else 0
theorem blk_0 (s : Int) (w : World) (ht : Tab w) (h1 : s = 0) : Calls Tryz.prog 170 #[.int .i64 s] w fun e w' => e = .returned (.int .i64 4) ∧ w = w' := by
 obtain ⟨t0, t1, t2⟩ := ht
 subst h1
 go_enter Tryz.func170, Tryz.ntmps170
 go_wp2
 go_ret
 exact ⟨rfl, rfl⟩
theorem refBlk_0 (s : Int) (w : World) (h1 : s = 0) : Calls Tryz.prog 108 #[.int .i64 s] w fun e w' => e = .returned (.int .i64 4) ∧ w = w' := by
 subst h1
 go_enter Tryz.func108, Tryz.ntmps108
 go_wp2
 go_ret
 exact ⟨rfl, rfl⟩
theorem blk_1 (s : Int) (w : World) (ht : Tab w) (h1 : s = 1) : Calls Tryz.prog 170 #[.int .i64 s] w fun e w' => e = .returned (.int .i64 8) ∧ w = w' := by
 obtain ⟨t0, t1, t2⟩ := ht
 subst h1
 go_enter Tryz.func170, Tryz.ntmps170
 go_wp2
 go_ret
 exact ⟨rfl, rfl⟩
theorem refBlk_1 (s : Int) (w : World) (h1 : s = 1) : Calls Tryz.prog 108 #[.int .i64 s] w fun e w' => e = .returned (.int .i64 8) ∧ w = w' := by
 subst h1
 go_enter Tryz.func108, Tryz.ntmps108
 go_wp2
 go_ret
 exact ⟨rfl, rfl⟩
theorem blk_2 (s : Int) (w : World) (ht : Tab w) (h1 : s = 2) : Calls Tryz.prog 170 #[.int .i64 s] w fun e w' => e = .returned (.int .i64 16) ∧ w = w' := by
 obtain ⟨t0, t1, t2⟩ := ht
 subst h1
 go_enter Tryz.func170, Tryz.ntmps170
 go_wp2
 go_ret
 exact ⟨rfl, rfl⟩
theorem refBlk_2 (s : Int) (w : World) (h1 : s = 2) : Calls Tryz.prog 108 #[.int .i64 s] w fun e w' => e = .returned (.int .i64 16) ∧ w = w' := by
 subst h1
 go_enter Tryz.func108, Tryz.ntmps108
 go_wp2
 go_ret
 exact ⟨rfl, rfl⟩
theorem blk_3 (s : Int) (w : World) (ht : Tab w) (h1 : 3 ≤ s) : Calls Tryz.prog 170 #[.int .i64 s] w fun e w' => e = .returned (.int .i64 0) ∧ w = w' := by
 obtain ⟨t0, t1, t2⟩ := ht
 go_enter Tryz.func170, Tryz.ntmps170
 go_wp2
 go_ret
 exact ⟨rfl, rfl⟩
theorem refBlk_3 (s : Int) (w : World) (h1 : 3 ≤ s) : Calls Tryz.prog 108 #[.int .i64 s] w fun e w' => e = .returned (.int .i64 0) ∧ w = w' := by
 go_enter Tryz.func108, Tryz.ntmps108
 go_wp2
 go_ret
 exact ⟨rfl, rfl⟩
theorem blk_4 (s : Int) (w : World) (ht : Tab w) (h1 : s ≤ -1) : Calls Tryz.prog 170 #[.int .i64 s] w fun e w' => e = .returned (.int .i64 0) ∧ w = w' := by
 obtain ⟨t0, t1, t2⟩ := ht
 go_enter Tryz.func170, Tryz.ntmps170
 go_wp2
 go_ret
 exact ⟨rfl, rfl⟩
theorem refBlk_4 (s : Int) (w : World) (h1 : s ≤ -1) : Calls Tryz.prog 108 #[.int .i64 s] w fun e w' => e = .returned (.int .i64 0) ∧ w = w' := by
 go_enter Tryz.func108, Tryz.ntmps108
 go_wp2
 go_ret
 exact ⟨rfl, rfl⟩
theorem refBlk_any (s : Int) (w : World) : Calls Tryz.prog 108 #[.int .i64 s] w fun e w' => e = .returned (.int .i64 (blkI s)) ∧ w = w' := by
 by_cases a1 : s = 0
 ·rw [show blkI s = 4 by simp [blkI, a1]]; exact refBlk_0 s w a1
 by_cases a2 : s = 1
 ·rw [show blkI s = 8 by simp [blkI, a2]]; exact refBlk_1 s w a2
 by_cases a3 : s = 2
 ·rw [show blkI s = 16 by simp [blkI, a3]]; exact refBlk_2 s w a3
 rw [show blkI s = 0 by simp [blkI, a1, a2, a3]]
 by_cases a4 : s < 0
 ·exact refBlk_4 s w (by omega)
 ·exact refBlk_3 s w (by omega)
theorem mny_0 (s : Int) (w : World) (ht : Tab w) (h1 : s = 0) : Calls Tryz.prog 171 #[.int .i64 s] w fun e w' => e = .returned (.int .i64 8) ∧ w = w' := by
 subst h1
 go_enter Tryz.func171, Tryz.ntmps171
 go_wp2_with (go_at_call 170; refine (blk_0 0 _ ht rfl).mono ?_; rintro e w' ⟨rfl, rfl⟩)
 go_ret
 exact ⟨rfl, rfl⟩
theorem refMny_0 (s : Int) (w : World) (h1 : s = 0) : Calls Tryz.prog 60 #[.int .i64 s] w fun e w' => e = .returned (.int .i64 8) ∧ w = w' := by
 subst h1
 go_enter Tryz.func60, Tryz.ntmps60
 go_wp2_with (go_at_call 108; refine (refBlk_0 0 _ rfl).mono ?_; rintro e w' ⟨rfl, rfl⟩)
 refine wp_loop_rounds 10 ?_
 repeat any_goals (rw [rounds_succ]; go_wp2_with (go_at_call 108; refine (refBlk_0 0 _ rfl).mono ?_; rintro e w' ⟨rfl, rfl⟩))
 go_ret
 exact ⟨rfl, rfl⟩
theorem mny_1 (s : Int) (w : World) (ht : Tab w) (h1 : s = 1) : Calls Tryz.prog 171 #[.int .i64 s] w fun e w' => e = .returned (.int .i64 4) ∧ w = w' := by
 subst h1
 go_enter Tryz.func171, Tryz.ntmps171
 go_wp2_with (go_at_call 170; refine (blk_1 1 _ ht rfl).mono ?_; rintro e w' ⟨rfl, rfl⟩)
 go_ret
 exact ⟨rfl, rfl⟩
theorem refMny_1 (s : Int) (w : World) (h1 : s = 1) : Calls Tryz.prog 60 #[.int .i64 s] w fun e w' => e = .returned (.int .i64 4) ∧ w = w' := by
 subst h1
 go_enter Tryz.func60, Tryz.ntmps60
 go_wp2_with (go_at_call 108; refine (refBlk_1 1 _ rfl).mono ?_; rintro e w' ⟨rfl, rfl⟩)
 refine wp_loop_rounds 10 ?_
 repeat any_goals (rw [rounds_succ]; go_wp2_with (go_at_call 108; refine (refBlk_1 1 _ rfl).mono ?_; rintro e w' ⟨rfl, rfl⟩))
 go_ret
 exact ⟨rfl, rfl⟩
theorem mny_2 (s : Int) (w : World) (ht : Tab w) (h1 : s = 2) : Calls Tryz.prog 171 #[.int .i64 s] w fun e w' => e = .returned (.int .i64 2) ∧ w = w' := by
 subst h1
 go_enter Tryz.func171, Tryz.ntmps171
 go_wp2_with (go_at_call 170; refine (blk_2 2 _ ht rfl).mono ?_; rintro e w' ⟨rfl, rfl⟩)
 go_ret
 exact ⟨rfl, rfl⟩
theorem refMny_2 (s : Int) (w : World) (h1 : s = 2) : Calls Tryz.prog 60 #[.int .i64 s] w fun e w' => e = .returned (.int .i64 2) ∧ w = w' := by
 subst h1
 go_enter Tryz.func60, Tryz.ntmps60
 go_wp2_with (go_at_call 108; refine (refBlk_2 2 _ rfl).mono ?_; rintro e w' ⟨rfl, rfl⟩)
 refine wp_loop_rounds 10 ?_
 repeat any_goals (rw [rounds_succ]; go_wp2_with (go_at_call 108; refine (refBlk_2 2 _ rfl).mono ?_; rintro e w' ⟨rfl, rfl⟩))
 go_ret
 exact ⟨rfl, rfl⟩
theorem refMny_3 (s : Int) (w : World) (h1 : 3 ≤ s) : Calls Tryz.prog 60 #[.int .i64 s] w fun e w' => e = .returned (.int .i64 0) ∧ w = w' := by
 go_enter Tryz.func60, Tryz.ntmps60
 go_wp2_with (go_at_call 108; refine (refBlk_3 s _ h1).mono ?_; rintro e w' ⟨rfl, rfl⟩)
 refine wp_loop_rounds 10 ?_
 repeat any_goals (rw [rounds_succ]; go_wp2_with (go_at_call 108; refine (refBlk_3 s _ h1).mono ?_; rintro e w' ⟨rfl, rfl⟩))
 go_ret
 exact ⟨rfl, rfl⟩
theorem refMny_4 (s : Int) (w : World) (h1 : s ≤ -1) : Calls Tryz.prog 60 #[.int .i64 s] w fun e w' => e = .returned (.int .i64 0) ∧ w = w' := by
 go_enter Tryz.func60, Tryz.ntmps60
 go_wp2_with (go_at_call 108; refine (refBlk_4 s _ h1).mono ?_; rintro e w' ⟨rfl, rfl⟩)
 refine wp_loop_rounds 10 ?_
 repeat any_goals (rw [rounds_succ]; go_wp2_with (go_at_call 108; refine (refBlk_4 s _ h1).mono ?_; rintro e w' ⟨rfl, rfl⟩))
 go_ret
 exact ⟨rfl, rfl⟩
theorem refMny_any (s : Int) (w : World) : Calls Tryz.prog 60 #[.int .i64 s] w fun e w' => e = .returned (.int .i64 (mnyI s)) ∧ w = w' := by
 by_cases a1 : s = 0
 ·rw [show mnyI s = 8 by simp [mnyI, a1]]; exact refMny_0 s w a1
 by_cases a2 : s = 1
 ·rw [show mnyI s = 4 by simp [mnyI, a2]]; exact refMny_1 s w a2
 by_cases a3 : s = 2
 ·rw [show mnyI s = 2 by simp [mnyI, a3]]; exact refMny_2 s w a3
 rw [show mnyI s = 0 by simp [mnyI, a1, a2, a3]]
 by_cases a4 : s < 0
 ·exact refMny_4 s w (by omega)
 ·exact refMny_3 s w (by omega)
theorem tab_keep {w w1 : World} {n : Nat} (h : Tab w) (hs : 5 < n) (hb : Below n w w1) : Tab w1 :=
 ⟨by rw [hb.cell hs]; exact h.1, by rw [hb.cell hs]; exact h.2.1, by rw [hb.cell hs]; exact h.2.2⟩
end Go.Proofs.YtkkbngcgphlikaaGreatDoor
end
