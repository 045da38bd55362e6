/-
  Part of the proof of JournalUndo.
-/
import Derived.Test.YtkkbngcgphlikaaGreatDoorJu1
import Derived.Test.YtkkbngcgphlikaaGreatDoorRows
import Derived.BigQuiet
import Derived.Deep.RegionHeld3
import Derived.Deep.SlicePairs
import Derived.Test.YtkkbngcgphlikaaGreatDoorJu0
set_option maxRecDepth 10000
set_option maxHeartbeats 800000
set_option linter.unusedVariables false
set_option linter.unusedSimpArgs false
section
namespace Go.Proofs.YtkkbngcgphlikaaGreatDoor
open Go.RowKit Go.ChangeShapes Go.WideShapes Go.Deep
section
variable {α : Type}
theorem fm_len {sz : Nat} {en : α → List Value} (hen : ∀ x, (en x).length = sz) (l : List α) : (l.flatMap en).length = l.length * sz := by
 induction l with
 | nil => simp
 | cons x l ih => rw [List.flatMap_cons, List.length_append, ih, hen, List.length_cons, Nat.add_mul, Nat.one_mul, Nat.add_comm]
def OwnE (e : TypeId) (sz : Nat) (en : α → List Value) (w : World) (base : Nat) (v : Value) (l : List α) : Prop := w.ownsRow base e sz v l.length (l.flatMap en)
theorem OwnE.keep {e : TypeId} {sz : Nat} {en : α → List Value} {w w1 : World} {base : Nat} {v : Value} {l : List α} (h : OwnE e sz en w base v l) (hb : Below w.heap.size w w1) : OwnE e sz en w1 base v l := by
 refine ⟨h.1, ?_⟩
 rcases h.2 with h2 | ⟨g, cap, cur, hv, hbg, hg, h1, h2, h3, h4⟩
 ·exact .inl h2
 exact .inr ⟨g, cap, cur, hv, hbg, by rw [hb.block g (Array.getElem?_eq_some_iff.1 hg).1]; exact hg, h1, h2, h3, h4⟩
theorem OwnE.mono {e : TypeId} {sz : Nat} {en : α → List Value} {w : World} {base b2 : Nat} {v : Value} {l : List α} (h : OwnE e sz en w base v l) (hb : b2 ≤ base) : OwnE e sz en w b2 v l := by
 refine ⟨h.1, ?_⟩
 rcases h.2 with h2 | ⟨g, cap, cur, hv, hbg, hg, h1, h2, h3, h4⟩
 ·exact .inl h2
 exact .inr ⟨g, cap, cur, hv, by omega, hg, h1, h2, h3, h4⟩
theorem OwnE.nil (e : TypeId) (sz : Nat) (en : α → List Value) (w : World) (base : Nat) : OwnE e sz en w base (.slice none 0 0) [] := World.ownsRow_nil _ _ _ _
theorem OwnE.lt {e : TypeId} {sz : Nat} {en : α → List Value} {w : World} {base : Nat} {v : Value} {l : List α} (h : OwnE e sz en w base v l) : ∀ k, v.ownBlock = some k → base ≤ k ∧ k < w.heap.size := World.ownsRow.lt h
theorem OwnE.kept {e : TypeId} {sz : Nat} {en : α → List Value} {w w1 : World} {base : Nat} {v : Value} {l : List α} {row : Option Nat} (h : OwnE e sz en w base v l) (hg : w.grownBy w1 row) (hne : v.ownBlock = none ∨ v.ownBlock ≠ row) : OwnE e sz en w1 base v l := World.ownsRow.kept h hg hne
theorem OwnE.alloc {e : TypeId} {sz : Nat} {en : α → List Value} {w : World} {base : Nat} {v : Value} {l : List α} (h : OwnE e sz en w base v l) (o : Obj) : OwnE e sz en (w.alloc o) base v l := h.keep (bZ _ _)
theorem OwnE.form {e : TypeId} {sz : Nat} {en : α → List Value} {w : World} {base : Nat} {v : Value} {l : List α} (h : OwnE e sz en w base v l) (hp : 0 < l.length) : ∃ g cap, v = .slice (some ⟨g, 0, none⟩) l.length cap ∧ base ≤ g ∧ g < w.heap.size ∧ l.length ≤ cap := by
 rcases h.2 with ⟨_, hn⟩ | ⟨g, cap, cur, hv, hb, hg, h1, _⟩
 ·omega
 exact ⟨g, cap, hv, hb, (Array.getElem?_eq_some_iff.1 hg).1, h1⟩
theorem OwnE.lit (e : TypeId) {sz : Nat} {en : α → List Value} (hen : ∀ x, (en x).length = sz) (w : World) (l : List α) (cs : Array Value) (hcs : cs = (l.flatMap en).toArray) (hl : l.length ≤ 100000) : OwnE e sz en (w.alloc (.cells cs e)) w.heap.size (.slice (some ⟨w.heap.size, 0, none⟩) l.length l.length) l := by
 subst hcs
 refine ⟨fm_len hen l, .inr ⟨w.heap.size, _, _, rfl, Nat.le_refl _, heap_alloc_new w _, Nat.le_refl _, by unfold maxLen; omega, ?_, ?_⟩⟩
 ·rw [List.size_toArray, fm_len hen]
 simp only [List.toList_toArray]; rw [← fm_len hen l, List.take_length]
structure ElT (P : Program) (S e : TypeId) (sz by_ : Nat) (en : α → List Value) : Prop where
 und : P.underlying S = some (.slice e)
 info : ∃ i0 z, P.info? e = some i0 ∧ i0.zero = some z ∧ i0.size = sz ∧ i0.bytes = by_ ∧ z.cells.size = sz
 len : ∀ x, (en x).length = sz
 one : ∀ x, ∀ u ∈ en x, u.oneCell' = true
 pos : 0 < sz
 small : by_ ≤ 1000
theorem grown_below {w w1 : World} {base : Nat} {v : Value} (hg : w.grownBy w1 v.ownBlock) (hb : base ≤ w.heap.size) (hl : ∀ k, v.ownBlock = some k → base ≤ k) : Below base w w1 := (Below.refl base w).grown hg hb hl
theorem spot_none {W : World} {a : Addr} {v : Value} (h : W.cell? a = some v) : a.spot = none := by
 unfold World.cell? at h
 split at h
 ·split at h
  ·simp at h
  rename_i hs
  simpa using hs
 simp at h
end
section
variable {α : Type} [Inhabited α]
def EL (sz : Nat) (en : α → List Value) (w : World) (v : Value) (l : List α) : Prop :=
 ∃ A cap, v = .slice A l.length cap ∧ (0 < l.length → ∃ g off, A = some ⟨g, off, none⟩ ∧ g < w.heap.size ∧ l.length ≤ cap ∧ ∀ i, i < l.length → ∀ j, j < sz → w.cell? ⟨g, off + i * sz + j, none⟩ = (en (l.getD i default))[j]?)
theorem EL.keep {sz : Nat} {en : α → List Value} {w w1 : World} {v : Value} {l : List α} (h : EL sz en w v l) (hb : Below w.heap.size w w1) : EL sz en w1 v l := by
 obtain ⟨A, cap, hv, h⟩ := h
 refine ⟨A, cap, hv, fun hl => ?_⟩
 obtain ⟨g, off, hA, hg, hc, hi⟩ := h hl
 exact ⟨g, off, hA, Nat.lt_of_lt_of_le hg hb.size, hc, fun i h j hj => by rw [(bcell hb).1 _ _ hg]; exact hi i h j hj⟩
theorem EL.nil (sz : Nat) (en : α → List Value) (w : World) (A : Option Addr) (cap : Nat) : EL sz en w (.slice A 0 cap) [] := ⟨A, cap, rfl, fun h => by simp at h⟩
theorem EL.form {sz : Nat} {en : α → List Value} {w : World} {v : Value} {l : List α} {n : Nat} (h : EL sz en w v l) (hn : l.length = n) : ∃ A cap, v = .slice A n cap ∧
 ∀ w1 i, Below w.heap.size w w1 → i < n → ∃ g off, A = some ⟨g, off, none⟩ ∧ n ≤ cap ∧ g < w.heap.size ∧ g < w1.heap.size ∧ ∀ j, j < sz → w1.cell? ⟨g, off + i * sz + j, none⟩ = (en (l.getD i default))[j]? := by
 obtain ⟨A, cap, hv, h⟩ := h
 refine ⟨A, cap, by rw [hv, hn], fun w1 i hb hi => ?_⟩
 obtain ⟨g, off, hA, hg, hc, hcell⟩ := h (by omega)
 refine ⟨g, off, hA, by omega, hg, Nat.lt_of_lt_of_le hg hb.size, fun j hj => ?_⟩
 rw [(bcell hb).1 _ _ hg]; exact hcell i (by omega) j hj
theorem fm_at {sz : Nat} {en : α → List Value} (hen : ∀ x, (en x).length = sz) : ∀ (l : List α) (i j : Nat), i < l.length → j < sz → (l.flatMap en)[i * sz + j]? = (en (l.getD i default))[j]?
 | [], i, j, hi, _ => by simp at hi
 | x :: l, 0, j, _, hj => by
   rw [List.flatMap_cons, Nat.zero_mul, Nat.zero_add, List.getElem?_append_left (by rw [hen]; exact hj)]; rfl
 | x :: l, i + 1, j, hi, hj => by
   rw [List.flatMap_cons, List.getElem?_append_right (by rw [hen, Nat.add_mul]; omega), hen]
   rw [show (i + 1) * sz + j - sz = i * sz + j by rw [Nat.add_mul]; omega]
   rw [fm_at hen l i j (by simpa using hi) hj]; rfl
theorem OwnE.el {e : TypeId} {sz : Nat} {en : α → List Value} (hen : ∀ x, (en x).length = sz) {w : World} {base : Nat} {v : Value} {l : List α} (h : OwnE e sz en w base v l) : EL sz en w v l := by
 have h' := h
 rcases h.2 with ⟨hv, hn⟩ | ⟨g, cap, cur, hv, hb, hg, h1, h2, h3, h4⟩
 ·have : l = [] := by simpa using hn
  subst this
  exact ⟨none, 0, hv, fun h => by simp at h⟩
 subst hv
 refine ⟨some ⟨g, 0, none⟩, cap, rfl, fun _ => ⟨g, 0, rfl, (Array.getElem?_eq_some_iff.1 hg).1, h1, fun i hi j hj => ?_⟩⟩
 rw [Nat.zero_add]
 have hlt : i * sz + j < l.length * sz := by
  have : i * sz + sz ≤ l.length * sz := by rw [← Nat.succ_mul]; exact Nat.mul_le_mul_right _ hi
  omega
 rw [World.ownsRow.cellAt h' _ hlt, fm_at hen l i j hi hj]
theorem OwnE.cell {e : TypeId} {sz : Nat} {en : α → List Value} (hen : ∀ x, (en x).length = sz) {w : World} {base g n cap : Nat} {l : List α} (h : OwnE e sz en w base (.slice (some ⟨g, 0, none⟩) n cap) l) (hn : l.length = n) {i j : Nat} (hi : i < n) (hj : j < sz) :
 w.cell? ⟨g, i * sz + j, none⟩ = (en (l.getD i default))[j]? ∧ w.frozen? ⟨g, i * sz + j, none⟩ = false := by
 unfold OwnE at h
 rw [hn] at h
 have hlt : i * sz + j < n * sz := by
  have : i * sz + sz ≤ n * sz := by rw [← Nat.succ_mul]; exact Nat.mul_le_mul_right _ hi
  omega
 exact ⟨by rw [World.ownsRow.cellAt h _ hlt, fm_at hen l i j (by omega) hj], h.frozenAt _⟩
theorem appE {P : Program} {S e : TypeId} {sz by_ : Nat} {en : α → List Value} (T : ElT P S e sz by_ en) {w : World} {base : Nat} {v u : Value} {l m : List α} (hown : OwnE e sz en w base v l) (ha : EL sz en w u m) (hb : base ≤ w.heap.size) (hsm : l.length ≤ 1000000) (hsm2 : m.length ≤ 1000000) :
 ∃ v' w', (Builtin.append_ #[S, S] S #[v, u]).run P w = .ok v' w' ∧ OwnE e sz en w' base v' (l ++ m) ∧ w.grownBy w' v.ownBlock ∧ (v'.ownBlock = v.ownBlock ∨ v'.ownBlock = some w.heap.size) ∧ (m ≠ [] → v' ≠ .slice none 0 0) := by
 obtain ⟨i0, z, hi, hz0, hz1, hz2, hz3⟩ := T.info
 have ht := T.und
 obtain ⟨A, cap, rfl, h⟩ := ha
 cases m with
 | nil =>
   refine ⟨v, w, ?_, by simpa using hown, ⟨rfl, rfl, rfl, Nat.le_refl _, fun _ _ _ => rfl⟩, .inl rfl, fun h => absurd rfl h⟩
   rcases hown.2 with ⟨rfl, _⟩ | ⟨g, cap', cur, rfl, _, _, hnc, _⟩
   ·cases A <;> simp [Builtin.append_, run_underlying ht, sizeOf, typeInfo, hi, Builtin.lenOf, Builtin.firstCells, loadCells, loadCellsFrom, storeCells]
   cases A <;> simp [Builtin.append_, run_underlying ht, sizeOf, typeInfo, hi, Builtin.lenOf, Builtin.firstCells, hnc, loadCells, loadCellsFrom, storeCells]
 | cons x m =>
   obtain ⟨g, off, rfl, hg, hc, hcell⟩ := h (by simp)
   have hby := T.small
   obtain ⟨v', w', hrun, k1, k2, k3, k4⟩ := run_append_own_at (P := P) w base S S e i0 z sz by_ ht hi hz0 hz1 hz2 hz3 T.pos v l.length _ hown ⟨g, off, none⟩ (x :: m).length cap ((x :: m).flatMap en) (fm_len T.len _)
    (fun j u hj => by
      have hj2 : j < (x :: m).length * sz := by rw [← fm_len T.len]; exact (List.getElem?_eq_some_iff.1 hj).1
      have hp := T.pos
      have hd : j / sz < (x :: m).length := (Nat.div_lt_iff_lt_mul hp).2 hj2
      have hm := Nat.mod_lt j hp
      have e1 : j / sz * sz + j % sz = j := by rw [Nat.mul_comm]; exact Nat.div_add_mod j sz
      have c0 := hcell (j / sz) hd (j % sz) hm
      have q0 := fm_at T.len (x :: m) (j / sz) (j % sz) hd hm
      rw [e1, hj] at q0
      rw [← q0, Nat.add_assoc, e1] at c0
      rw [add_plain]; exact c0) (by intro u hu; obtain ⟨y, _, hy⟩ := List.mem_flatMap.1 hu; exact T.one y u hy) (by unfold maxLen; omega) (by
       have : (l.length + (x :: m).length) * by_ ≤ 2000000 * 1000 := Nat.mul_le_mul (by omega) hby
       omega) hb
   refine ⟨v', w', hrun, ?_, k2, k4, fun _ h => by have := (k3.1 h).2; simp at this⟩
   unfold OwnE
   rw [List.length_append, List.flatMap_append]
   exact k1
theorem els_open {H : Type} {enc : TypeId × Value → H} {P : Program} {W : World} {t e : TypeId} {sz : Nat} {en : α → List Value} {Ok : α → Prop} (ht : P.underlying t = some (.slice e)) (hc : P.cellsOf e = sz) (hp : 0 < sz)
 (hel : ∀ fuel cs x, cs.length = sz → DataW.trod enc P W 0 (fun _ => true) true fuel e cs = some x → ∃ a : α, Ok a ∧ cs = en a)
 {ad : Option Addr} {len cap : Nat} {d : DataW H} {p : List MemPlace}
 (h : DataW.Trod enc P W 0 (fun _ => true) true t (.slice ad len cap) d p) : ∃ l : List α, (l.length ≤ 9223372036854775807 ∧ ∀ x ∈ l, Ok x) ∧ EL sz en W (.slice ad len cap) l := by
 obtain ⟨fuel, hf⟩ := h
 rcases open_slice ht hf with ⟨hcs, _⟩ | ⟨a, len', cap', m, n, D, Pl, hcs, hb, hl, hmx, hmm, _, hx⟩
 ·simp [Value.cells] at hcs
  obtain ⟨rfl, rfl, rfl⟩ := hcs
  exact ⟨[], ⟨by simp, fun x hx => by simp at hx⟩, EL.nil _ _ _ _ _⟩
 simp [Value.cells] at hcs
 obtain ⟨rfl, rfl, rfl⟩ := hcs
 simp only [if_true] at hmm
 subst hmm
 have hex : ∀ i, i < len → ∃ q : α, Ok q ∧ ∀ j, j < sz → W.cell? (a.add (i * sz + j)) = (en q)[j]? := fun i hil => by
  obtain ⟨cs', h1, h2⟩ := hx i (by omega)
  rw [hc] at h1
  obtain ⟨_, hlen, hcell⟩ := World.cells?_some h1
  obtain ⟨q, ho, rfl⟩ := hel _ _ _ hlen h2
  refine ⟨q, ho, fun j hj => ?_⟩
  have := hcell j hj
  rw [add_add] at this
  rw [this]
 obtain ⟨q, hq⟩ := choose_lt hex
 have hlen : ((List.range len).map q).length = len := by simp
 refine ⟨(List.range len).map q, ⟨by rw [hlen]; unfold maxLen at hmx; omega, fun x hx => ?_⟩, some a, _, by rw [hlen], fun h0 => ?_⟩
 ·obtain ⟨i, hi', rfl⟩ := List.mem_map.1 hx
  exact (hq i (List.mem_range.1 hi')).1
 rw [hlen] at h0 ⊢
 obtain ⟨cs0, h01, h02⟩ := hx 0 (by omega)
 rw [hc] at h01
 obtain ⟨_, hl0, hc0⟩ := World.cells?_some h01
 have hc00 := hc0 0 hp
 rw [List.getElem?_eq_getElem (by omega)] at hc00
 have hsp : a.spot = none := by
  have := spot_none hc00
  unfold Addr.add at this
  simpa using this
 obtain ⟨g, off, sp⟩ := a
 simp only at hsp
 subst hsp
 refine ⟨g, off, rfl, ?_, by omega, fun i hil j hj => ?_⟩
 ·have := World.block_lt_of_cell? _ _ hc00
  simpa [add_plain] using this
 have e : ((List.range len).map q).getD i default = q i := by
  rw [List.getD_eq_getElem?_getD, List.getElem?_map, List.getElem?_range hil]
  rfl
 rw [e, ← (hq i hil).2 j hj, add_plain, Nat.add_assoc]
end
theorem wpList_append_run {P : Program} {w w' : World} {ops : Array Oper} {rest : List Oper} {o : Oper} {a : Act} {Q : Exit → Act → World → Prop} (hg : o.guard = none) (s x : Operand) (t : TypeId)
 (hop : o.op = Op.call { callee := Callee.builtin Builtin.append, args := #[s, x], argTypes := #[t, t] }) (vs vx v : Value) (hs : a.eval s = vs) (hx : a.eval x = vx)
 (hrun : (Builtin.append_ #[t, t] o.type #[vs, vx]).run P w = .ok v w') (h : wpList P ops Q rest (a.put o.dst v) w') : wpList P ops Q (o :: rest) a w := by
 refine wpList_plain hg fun K hK => ?_
 unfold Oper.wp
 simp [execOp, hop, resolve, invoke, builtin, hs, hx, hrun, Result.andThen]
 exact hK _ _ h
end Go.Proofs.YtkkbngcgphlikaaGreatDoor
end
section
namespace Go.Proofs.YtkkbngcgphlikaaGreatDoor
open Go.RowKit
def Tab (w : World) : Prop := w.cell? ⟨5, 0, none⟩ = some (.int .i64 4) ∧ w.cell? ⟨5, 1, none⟩ = some (.int .i64 8) ∧ w.cell? ⟨5, 2, none⟩ = some (.int .i64 16)
def blkI (c : Int) : Int := if c = 0 then 4 else if c = 1 then 8 else if c = 2 then 16 else 0
def mnyI (c : Int) : Int := if c = 0 then 8 else if c = 1 then 4 else if c = 2 then 2 else 0
theorem blk_0 (s : Int) (w : World) (ht : Tab w) (h1 : s = 0) : Calls Tryz.prog 170 #[.int .i64 s] w fun e w' => e = .returned (.int .i64 4) ∧ w = w' := by
 obtain ⟨t0, t1, t2⟩ := ht
 subst h1
 go_enter Tryz.func170, Tryz.ntmps170
 go_wp2
 go_ret
 exact ⟨rfl, rfl⟩
theorem refBlk_0 (s : Int) (w : World) (h1 : s = 0) : Calls Tryz.prog 108 #[.int .i64 s] w fun e w' => e = .returned (.int .i64 4) ∧ w = w' := by
 subst h1
 go_enter Tryz.func108, Tryz.ntmps108
 go_wp2
 go_ret
 exact ⟨rfl, rfl⟩
theorem blk_1 (s : Int) (w : World) (ht : Tab w) (h1 : s = 1) : Calls Tryz.prog 170 #[.int .i64 s] w fun e w' => e = .returned (.int .i64 8) ∧ w = w' := by
 obtain ⟨t0, t1, t2⟩ := ht
 subst h1
 go_enter Tryz.func170, Tryz.ntmps170
 go_wp2
 go_ret
 exact ⟨rfl, rfl⟩
theorem refBlk_1 (s : Int) (w : World) (h1 : s = 1) : Calls Tryz.prog 108 #[.int .i64 s] w fun e w' => e = .returned (.int .i64 8) ∧ w = w' := by
 subst h1
 go_enter Tryz.func108, Tryz.ntmps108
 go_wp2
 go_ret
 exact ⟨rfl, rfl⟩
theorem blk_2 (s : Int) (w : World) (ht : Tab w) (h1 : s = 2) : Calls Tryz.prog 170 #[.int .i64 s] w fun e w' => e = .returned (.int .i64 16) ∧ w = w' := by
 obtain ⟨t0, t1, t2⟩ := ht
 subst h1
 go_enter Tryz.func170, Tryz.ntmps170
 go_wp2
 go_ret
 exact ⟨rfl, rfl⟩
theorem refBlk_2 (s : Int) (w : World) (h1 : s = 2) : Calls Tryz.prog 108 #[.int .i64 s] w fun e w' => e = .returned (.int .i64 16) ∧ w = w' := by
 subst h1
 go_enter Tryz.func108, Tryz.ntmps108
 go_wp2
 go_ret
 exact ⟨rfl, rfl⟩
theorem blk_3 (s : Int) (w : World) (ht : Tab w) (h1 : 3 ≤ s) : Calls Tryz.prog 170 #[.int .i64 s] w fun e w' => e = .returned (.int .i64 0) ∧ w = w' := by
 obtain ⟨t0, t1, t2⟩ := ht
 go_enter Tryz.func170, Tryz.ntmps170
 go_wp2
 go_ret
 exact ⟨rfl, rfl⟩
theorem refBlk_3 (s : Int) (w : World) (h1 : 3 ≤ s) : Calls Tryz.prog 108 #[.int .i64 s] w fun e w' => e = .returned (.int .i64 0) ∧ w = w' := by
 go_enter Tryz.func108, Tryz.ntmps108
 go_wp2
 go_ret
 exact ⟨rfl, rfl⟩
theorem blk_4 (s : Int) (w : World) (ht : Tab w) (h1 : s ≤ -1) : Calls Tryz.prog 170 #[.int .i64 s] w fun e w' => e = .returned (.int .i64 0) ∧ w = w' := by
 obtain ⟨t0, t1, t2⟩ := ht
 go_enter Tryz.func170, Tryz.ntmps170
 go_wp2
 go_ret
 exact ⟨rfl, rfl⟩
theorem refBlk_4 (s : Int) (w : World) (h1 : s ≤ -1) : Calls Tryz.prog 108 #[.int .i64 s] w fun e w' => e = .returned (.int .i64 0) ∧ w = w' := by
 go_enter Tryz.func108, Tryz.ntmps108
 go_wp2
 go_ret
 exact ⟨rfl, rfl⟩
theorem refBlk_any (s : Int) (w : World) : Calls Tryz.prog 108 #[.int .i64 s] w fun e w' => e = .returned (.int .i64 (blkI s)) ∧ w = w' := by
 by_cases a1 : s = 0
 ·rw [show blkI s = 4 by simp [blkI, a1]]; exact refBlk_0 s w a1
 by_cases a2 : s = 1
 ·rw [show blkI s = 8 by simp [blkI, a2]]; exact refBlk_1 s w a2
 by_cases a3 : s = 2
 ·rw [show blkI s = 16 by simp [blkI, a3]]; exact refBlk_2 s w a3
 rw [show blkI s = 0 by simp [blkI, a1, a2, a3]]
 by_cases a4 : s < 0
 ·exact refBlk_4 s w (by omega)
 exact refBlk_3 s w (by omega)
theorem mny_0 (s : Int) (w : World) (ht : Tab w) (h1 : s = 0) : Calls Tryz.prog 171 #[.int .i64 s] w fun e w' => e = .returned (.int .i64 8) ∧ w = w' := by
 subst h1
 go_enter Tryz.func171, Tryz.ntmps171
 go_wp2_with (go_at_call 170; refine (blk_0 0 _ ht rfl).mono ?_; rintro e w' ⟨rfl, rfl⟩)
 go_ret
 exact ⟨rfl, rfl⟩
theorem refMny_0 (s : Int) (w : World) (h1 : s = 0) : Calls Tryz.prog 60 #[.int .i64 s] w fun e w' => e = .returned (.int .i64 8) ∧ w = w' := by
 subst h1
 go_enter Tryz.func60, Tryz.ntmps60
 go_wp2_with (go_at_call 108; refine (refBlk_0 0 _ rfl).mono ?_; rintro e w' ⟨rfl, rfl⟩)
 refine wp_loop_rounds 10 ?_
 repeat any_goals (rw [rounds_succ]; go_wp2_with (go_at_call 108; refine (refBlk_0 0 _ rfl).mono ?_; rintro e w' ⟨rfl, rfl⟩))
 go_ret
 exact ⟨rfl, rfl⟩
theorem mny_1 (s : Int) (w : World) (ht : Tab w) (h1 : s = 1) : Calls Tryz.prog 171 #[.int .i64 s] w fun e w' => e = .returned (.int .i64 4) ∧ w = w' := by
 subst h1
 go_enter Tryz.func171, Tryz.ntmps171
 go_wp2_with (go_at_call 170; refine (blk_1 1 _ ht rfl).mono ?_; rintro e w' ⟨rfl, rfl⟩)
 go_ret
 exact ⟨rfl, rfl⟩
theorem refMny_1 (s : Int) (w : World) (h1 : s = 1) : Calls Tryz.prog 60 #[.int .i64 s] w fun e w' => e = .returned (.int .i64 4) ∧ w = w' := by
 subst h1
 go_enter Tryz.func60, Tryz.ntmps60
 go_wp2_with (go_at_call 108; refine (refBlk_1 1 _ rfl).mono ?_; rintro e w' ⟨rfl, rfl⟩)
 refine wp_loop_rounds 10 ?_
 repeat any_goals (rw [rounds_succ]; go_wp2_with (go_at_call 108; refine (refBlk_1 1 _ rfl).mono ?_; rintro e w' ⟨rfl, rfl⟩))
 go_ret
 exact ⟨rfl, rfl⟩
theorem mny_2 (s : Int) (w : World) (ht : Tab w) (h1 : s = 2) : Calls Tryz.prog 171 #[.int .i64 s] w fun e w' => e = .returned (.int .i64 2) ∧ w = w' := by
 subst h1
 go_enter Tryz.func171, Tryz.ntmps171
 go_wp2_with (go_at_call 170; refine (blk_2 2 _ ht rfl).mono ?_; rintro e w' ⟨rfl, rfl⟩)
 go_ret
 exact ⟨rfl, rfl⟩
theorem refMny_2 (s : Int) (w : World) (h1 : s = 2) : Calls Tryz.prog 60 #[.int .i64 s] w fun e w' => e = .returned (.int .i64 2) ∧ w = w' := by
 subst h1
 go_enter Tryz.func60, Tryz.ntmps60
 go_wp2_with (go_at_call 108; refine (refBlk_2 2 _ rfl).mono ?_; rintro e w' ⟨rfl, rfl⟩)
 refine wp_loop_rounds 10 ?_
 repeat any_goals (rw [rounds_succ]; go_wp2_with (go_at_call 108; refine (refBlk_2 2 _ rfl).mono ?_; rintro e w' ⟨rfl, rfl⟩))
 go_ret
 exact ⟨rfl, rfl⟩
theorem refMny_3 (s : Int) (w : World) (h1 : 3 ≤ s) : Calls Tryz.prog 60 #[.int .i64 s] w fun e w' => e = .returned (.int .i64 0) ∧ w = w' := by
 go_enter Tryz.func60, Tryz.ntmps60
 go_wp2_with (go_at_call 108; refine (refBlk_3 s _ h1).mono ?_; rintro e w' ⟨rfl, rfl⟩)
 refine wp_loop_rounds 10 ?_
 repeat any_goals (rw [rounds_succ]; go_wp2_with (go_at_call 108; refine (refBlk_3 s _ h1).mono ?_; rintro e w' ⟨rfl, rfl⟩))
 go_ret
 exact ⟨rfl, rfl⟩
theorem refMny_4 (s : Int) (w : World) (h1 : s ≤ -1) : Calls Tryz.prog 60 #[.int .i64 s] w fun e w' => e = .returned (.int .i64 0) ∧ w = w' := by
 go_enter Tryz.func60, Tryz.ntmps60
 go_wp2_with (go_at_call 108; refine (refBlk_4 s _ h1).mono ?_; rintro e w' ⟨rfl, rfl⟩)
 refine wp_loop_rounds 10 ?_
 repeat any_goals (rw [rounds_succ]; go_wp2_with (go_at_call 108; refine (refBlk_4 s _ h1).mono ?_; rintro e w' ⟨rfl, rfl⟩))
 go_ret
 exact ⟨rfl, rfl⟩
theorem refMny_any (s : Int) (w : World) : Calls Tryz.prog 60 #[.int .i64 s] w fun e w' => e = .returned (.int .i64 (mnyI s)) ∧ w = w' := by
 by_cases a1 : s = 0
 ·rw [show mnyI s = 8 by simp [mnyI, a1]]; exact refMny_0 s w a1
 by_cases a2 : s = 1
 ·rw [show mnyI s = 4 by simp [mnyI, a2]]; exact refMny_1 s w a2
 by_cases a3 : s = 2
 ·rw [show mnyI s = 2 by simp [mnyI, a3]]; exact refMny_2 s w a3
 rw [show mnyI s = 0 by simp [mnyI, a1, a2, a3]]
 by_cases a4 : s < 0
 ·exact refMny_4 s w (by omega)
 exact refMny_3 s w (by omega)
theorem tab_keep {w w1 : World} {n : Nat} (h : Tab w) (hs : 5 < n) (hb : Below n w w1) : Tab w1 :=
 ⟨by rw [hb.cell hs]; exact h.1, by rw [hb.cell hs]; exact h.2.1, by rw [hb.cell hs]; exact h.2.2⟩
end Go.Proofs.YtkkbngcgphlikaaGreatDoor
end
