/-
  Part of the proof of SoundPlaces.
-/
import Derived.Test.YtdmmbnnejbmdpaaGreatDoorVs1
import Derived.Test.YtdmmbnnejbmdpaaGreatDoorVs3
import Derived.Test.YtdmmbnnejbmdpaaGreatDoorRows
import Derived.BigQuiet
import Derived.Carry
import Derived.ChangeSlices
import Derived.Deep.QuietTactic
import Derived.Deep.RegionHeld3
import Derived.Deep.SlicePairs
import Derived.Maps.AppendAt
import Derived.OwnWalk
import Derived.WalkLawsBesides
import Derived.WalkSpells
import Derived.Test.YtdmmbnnejbmdpaaGreatDoorVs0
set_option maxRecDepth 10000
set_option maxHeartbeats 400000
set_option linter.unusedVariables false
set_option linter.unusedSimpArgs false
section
namespace Go.Proofs.YtdmmbnnejbmdpaaGreatDoor
open Go.RowKit Go.ChangeShapes Go.WideShapes Go.Deep
section
variable {α : Type}
theorem fm_len {sz : Nat} {en : α → List Value} (hen : ∀ x, (en x).length = sz) (l : List α) : (l.flatMap en).length = l.length * sz := by
 induction l with
 | nil => simp
 | cons x l ih => rw [List.flatMap_cons, List.length_append, ih, hen, List.length_cons, Nat.add_mul, Nat.one_mul, Nat.add_comm]
def OwnE (e : TypeId) (sz : Nat) (en : α → List Value) (w : World) (base : Nat) (v : Value) (l : List α) : Prop := w.ownsRow base e sz v l.length (l.flatMap en)
theorem OwnE.keep {e : TypeId} {sz : Nat} {en : α → List Value} {w w1 : World} {base : Nat} {v : Value} {l : List α} (h : OwnE e sz en w base v l) (hb : Below w.heap.size w w1) : OwnE e sz en w1 base v l := by
 refine ⟨h.1, ?_⟩
 rcases h.2 with h2 | ⟨g, cap, cur, hv, hbg, hg, h1, h2, h3, h4⟩
 ·exact .inl h2
 ·exact .inr ⟨g, cap, cur, hv, hbg, by rw [hb.block g (Array.getElem?_eq_some_iff.1 hg).1]; exact hg, h1, h2, h3, h4⟩
theorem OwnE.mono {e : TypeId} {sz : Nat} {en : α → List Value} {w : World} {base b2 : Nat} {v : Value} {l : List α} (h : OwnE e sz en w base v l) (hb : b2 ≤ base) : OwnE e sz en w b2 v l := by
 refine ⟨h.1, ?_⟩
 rcases h.2 with h2 | ⟨g, cap, cur, hv, hbg, hg, h1, h2, h3, h4⟩
 ·exact .inl h2
 ·exact .inr ⟨g, cap, cur, hv, by omega, hg, h1, h2, h3, h4⟩
theorem OwnE.nil (e : TypeId) (sz : Nat) (en : α → List Value) (w : World) (base : Nat) : OwnE e sz en w base (.slice none 0 0) [] := World.ownsRow_nil _ _ _ _
theorem OwnE.lt {e : TypeId} {sz : Nat} {en : α → List Value} {w : World} {base : Nat} {v : Value} {l : List α} (h : OwnE e sz en w base v l) : ∀ k, v.ownBlock = some k → base ≤ k ∧ k < w.heap.size := World.ownsRow.lt h
theorem OwnE.kept {e : TypeId} {sz : Nat} {en : α → List Value} {w w1 : World} {base : Nat} {v : Value} {l : List α} {row : Option Nat} (h : OwnE e sz en w base v l) (hg : w.grownBy w1 row) (hne : v.ownBlock = none ∨ v.ownBlock ≠ row) : OwnE e sz en w1 base v l := World.ownsRow.kept h hg hne
theorem OwnE.drew {e : TypeId} {sz : Nat} {en : α → List Value} {w : World} {base : Nat} {v : Value} {l : List α} (h : OwnE e sz en w base v l) : OwnE e sz en w.drew base v l := h
theorem OwnE.alloc {e : TypeId} {sz : Nat} {en : α → List Value} {w : World} {base : Nat} {v : Value} {l : List α} (h : OwnE e sz en w base v l) (o : Obj) : OwnE e sz en (w.alloc o) base v l := h.keep (bZ _ _)
theorem OwnE.far {e : TypeId} {sz : Nat} {en : α → List Value} {w : World} {base g o : Nat} {v : Value} {l : List α} (h : OwnE e sz en w base v l) (hg : g < base) (u : Value) : OwnE e sz en (w.setCell ⟨g, o, none⟩ u) base v l := by
 refine ⟨h.1, ?_⟩
 rcases h.2 with h2 | ⟨g', cap, cur, hv, hbg, hgc, h1, h2, h3, h4⟩
 ·exact .inl h2
 ·exact .inr ⟨g', cap, cur, hv, hbg, by rw [Below.heap_setCell w ⟨g, o, none⟩ u g' (by simp only []; omega)]; exact hgc, h1, h2, h3, h4⟩
theorem OwnE.form {e : TypeId} {sz : Nat} {en : α → List Value} {w : World} {base : Nat} {v : Value} {l : List α} (h : OwnE e sz en w base v l) (hp : 0 < l.length) : ∃ g cap, v = .slice (some ⟨g, 0, none⟩) l.length cap ∧ base ≤ g ∧ g < w.heap.size ∧ l.length ≤ cap := by
 rcases h.2 with ⟨_, hn⟩ | ⟨g, cap, cur, hv, hb, hg, h1, _⟩
 ·omega
 ·exact ⟨g, cap, hv, hb, (Array.getElem?_eq_some_iff.1 hg).1, h1⟩
theorem OwnE.lit (e : TypeId) {sz : Nat} {en : α → List Value} (hen : ∀ x, (en x).length = sz) (w : World) (l : List α) (cs : Array Value) (hcs : cs = (l.flatMap en).toArray) (hl : l.length ≤ 100000) : OwnE e sz en (w.alloc (.cells cs e)) w.heap.size (.slice (some ⟨w.heap.size, 0, none⟩) l.length l.length) l := by
 subst hcs
 refine ⟨fm_len hen l, .inr ⟨w.heap.size, _, _, rfl, Nat.le_refl _, heap_alloc_new w _, Nat.le_refl _, by unfold maxLen; omega, ?_, ?_⟩⟩
 ·rw [List.size_toArray, fm_len hen]
 ·simp only [List.toList_toArray]; rw [← fm_len hen l, List.take_length]
structure ElT (P : Program) (S e : TypeId) (sz by_ : Nat) (en : α → List Value) : Prop where
 und : P.underlying S = some (.slice e)
 info : ∃ i0 z, P.info? e = some i0 ∧ i0.zero = some z ∧ i0.size = sz ∧ i0.bytes = by_ ∧ z.cells.size = sz
 len : ∀ x, (en x).length = sz
 one : ∀ x, ∀ u ∈ en x, u.oneCell' = true
 pos : 0 < sz
 small : by_ ≤ 1000
theorem grown_below {w w1 : World} {base : Nat} {v : Value} (hg : w.grownBy w1 v.ownBlock) (hb : base ≤ w.heap.size) (hl : ∀ k, v.ownBlock = some k → base ≤ k) : Below base w w1 := (Below.refl base w).grown hg hb hl
theorem spot_none {W : World} {a : Addr} {v : Value} (h : W.cell? a = some v) : a.spot = none := by
 unfold World.cell? at h
 split at h
 ·split at h
  ·simp at h
  ·rename_i hs
   simpa using hs
 ·simp at h
end
section
variable {α : Type} [Inhabited α]
def EL (sz : Nat) (en : α → List Value) (w : World) (v : Value) (l : List α) : Prop :=
 ∃ A cap, v = .slice A l.length cap ∧ (0 < l.length → ∃ g off, A = some ⟨g, off, none⟩ ∧ g < w.heap.size ∧ l.length ≤ cap ∧ ∀ i, i < l.length → ∀ j, j < sz → w.cell? ⟨g, off + i * sz + j, none⟩ = (en (l.getD i default))[j]?)
theorem EL.keep {sz : Nat} {en : α → List Value} {w w1 : World} {v : Value} {l : List α} (h : EL sz en w v l) (hb : Below w.heap.size w w1) : EL sz en w1 v l := by
 obtain ⟨A, cap, hv, h⟩ := h
 refine ⟨A, cap, hv, fun hl => ?_⟩
 obtain ⟨g, off, hA, hg, hc, hi⟩ := h hl
 exact ⟨g, off, hA, Nat.lt_of_lt_of_le hg hb.size, hc, fun i h j hj => by rw [(bcell hb).1 _ _ hg]; exact hi i h j hj⟩
theorem EL.nil (sz : Nat) (en : α → List Value) (w : World) (A : Option Addr) (cap : Nat) : EL sz en w (.slice A 0 cap) [] := ⟨A, cap, rfl, fun h => by simp at h⟩
theorem EL.form {sz : Nat} {en : α → List Value} {w : World} {v : Value} {l : List α} {n : Nat} (h : EL sz en w v l) (hn : l.length = n) : ∃ A cap, v = .slice A n cap ∧
 ∀ w1 i, Below w.heap.size w w1 → i < n → ∃ g off, A = some ⟨g, off, none⟩ ∧ n ≤ cap ∧ g < w.heap.size ∧ g < w1.heap.size ∧ ∀ j, j < sz → w1.cell? ⟨g, off + i * sz + j, none⟩ = (en (l.getD i default))[j]? := by
 obtain ⟨A, cap, hv, h⟩ := h
 refine ⟨A, cap, by rw [hv, hn], fun w1 i hb hi => ?_⟩
 obtain ⟨g, off, hA, hg, hc, hcell⟩ := h (by omega)
 refine ⟨g, off, hA, by omega, hg, Nat.lt_of_lt_of_le hg hb.size, fun j hj => ?_⟩
 rw [(bcell hb).1 _ _ hg]; exact hcell i (by omega) j hj
theorem fm_at {sz : Nat} {en : α → List Value} (hen : ∀ x, (en x).length = sz) : ∀ (l : List α) (i j : Nat), i < l.length → j < sz → (l.flatMap en)[i * sz + j]? = (en (l.getD i default))[j]?
 | [], i, j, hi, _ => by simp at hi
 | x :: l, 0, j, _, hj => by
   rw [List.flatMap_cons, Nat.zero_mul, Nat.zero_add, List.getElem?_append_left (by rw [hen]; exact hj)]; rfl
 | x :: l, i + 1, j, hi, hj => by
   rw [List.flatMap_cons, List.getElem?_append_right (by rw [hen, Nat.add_mul]; omega), hen]
   rw [show (i + 1) * sz + j - sz = i * sz + j by rw [Nat.add_mul]; omega]
   rw [fm_at hen l i j (by simpa using hi) hj]; rfl
theorem fm_set {sz : Nat} {en : α → List Value} (hen : ∀ x, (en x).length = sz) {x' : α} {u : Value} : ∀ (l : List α) (i j : Nat), i < l.length → j < sz → en x' = (en (l.getD i default)).set j u → (l.flatMap en).set (i * sz + j) u = (l.set i x').flatMap en
 | [], i, j, hi, _, _ => by simp at hi
 | x :: l, 0, j, _, hj, he => by
   rw [List.flatMap_cons, Nat.zero_mul, Nat.zero_add, List.set_append_left _ _ (by rw [hen]; exact hj), List.set_cons_zero, List.flatMap_cons, he]; rfl
 | x :: l, i + 1, j, hi, hj, he => by
   rw [List.flatMap_cons, List.set_append_right _ _ (by rw [hen, Nat.add_mul]; omega), hen, List.set_cons_succ, List.flatMap_cons]
   rw [show (i + 1) * sz + j - sz = i * sz + j by rw [Nat.add_mul]; omega]
   rw [fm_set hen l i j (by simpa using hi) hj he]
theorem OwnE.el {e : TypeId} {sz : Nat} {en : α → List Value} (hen : ∀ x, (en x).length = sz) {w : World} {base : Nat} {v : Value} {l : List α} (h : OwnE e sz en w base v l) : EL sz en w v l := by
 have h' := h
 rcases h.2 with ⟨hv, hn⟩ | ⟨g, cap, cur, hv, hb, hg, h1, h2, h3, h4⟩
 ·have : l = [] := by simpa using hn
  subst this
  exact ⟨none, 0, hv, fun h => by simp at h⟩
 ·subst hv
  refine ⟨some ⟨g, 0, none⟩, cap, rfl, fun _ => ⟨g, 0, rfl, (Array.getElem?_eq_some_iff.1 hg).1, h1, fun i hi j hj => ?_⟩⟩
  rw [Nat.zero_add]
  have hlt : i * sz + j < l.length * sz := by
   have : i * sz + sz ≤ l.length * sz := by rw [← Nat.succ_mul]; exact Nat.mul_le_mul_right _ hi
   omega
  rw [World.ownsRow.cellAt h' _ hlt, fm_at hen l i j hi hj]
theorem OwnE.set {e : TypeId} {sz : Nat} {en : α → List Value} (hen : ∀ x, (en x).length = sz) {w : World} {base g n cap i j : Nat} {l : List α} {x' : α} {u : Value} (h : OwnE e sz en w base (.slice (some ⟨g, 0, none⟩) n cap) l) (hn : l.length = n) (hi : i < n) (hj : j < sz) (he : en x' = (en (l.getD i default)).set j u) :
 OwnE e sz en (w.setCell ⟨g, i * sz + j, none⟩ u) base (.slice (some ⟨g, 0, none⟩) n cap) (l.set i x') := by
 unfold OwnE at h ⊢
 rw [hn] at h
 rw [List.length_set, hn, ← fm_set hen l i j (by omega) hj he]
 exact (World.ownsRow.stored h _ u).1
theorem OwnE.cell {e : TypeId} {sz : Nat} {en : α → List Value} (hen : ∀ x, (en x).length = sz) {w : World} {base g n cap : Nat} {l : List α} (h : OwnE e sz en w base (.slice (some ⟨g, 0, none⟩) n cap) l) (hn : l.length = n) {i j : Nat} (hi : i < n) (hj : j < sz) :
 w.cell? ⟨g, i * sz + j, none⟩ = (en (l.getD i default))[j]? ∧ w.frozen? ⟨g, i * sz + j, none⟩ = false := by
 unfold OwnE at h
 rw [hn] at h
 have hlt : i * sz + j < n * sz := by
  have : i * sz + sz ≤ n * sz := by rw [← Nat.succ_mul]; exact Nat.mul_le_mul_right _ hi
  omega
 exact ⟨by rw [World.ownsRow.cellAt h _ hlt, fm_at hen l i j (by omega) hj], h.frozenAt _⟩
theorem appE {P : Program} {S e : TypeId} {sz by_ : Nat} {en : α → List Value} (T : ElT P S e sz by_ en) {w : World} {base : Nat} {v u : Value} {l m : List α} (hown : OwnE e sz en w base v l) (ha : EL sz en w u m) (hb : base ≤ w.heap.size) (hsm : l.length ≤ 1000000) (hsm2 : m.length ≤ 1000000) :
 ∃ v' w', (Builtin.append_ #[S, S] S #[v, u]).run P w = .ok v' w' ∧ OwnE e sz en w' base v' (l ++ m) ∧ w.grownBy w' v.ownBlock ∧ (v'.ownBlock = v.ownBlock ∨ v'.ownBlock = some w.heap.size) ∧ (m ≠ [] → v' ≠ .slice none 0 0) := by
 obtain ⟨i0, z, hi, hz0, hz1, hz2, hz3⟩ := T.info
 have ht := T.und
 obtain ⟨A, cap, rfl, h⟩ := ha
 cases m with
 | nil =>
   refine ⟨v, w, ?_, by simpa using hown, ⟨rfl, rfl, rfl, Nat.le_refl _, fun _ _ _ => rfl⟩, .inl rfl, fun h => absurd rfl h⟩
   rcases hown.2 with ⟨rfl, _⟩ | ⟨g, cap', cur, rfl, _, _, hnc, _⟩
   ·cases A <;> simp [Builtin.append_, run_underlying ht, sizeOf, typeInfo, hi, Builtin.lenOf, Builtin.firstCells, loadCells, loadCellsFrom, storeCells]
   ·cases A <;> simp [Builtin.append_, run_underlying ht, sizeOf, typeInfo, hi, Builtin.lenOf, Builtin.firstCells, hnc, loadCells, loadCellsFrom, storeCells]
 | cons x m =>
   obtain ⟨g, off, rfl, hg, hc, hcell⟩ := h (by simp)
   have hby := T.small
   obtain ⟨v', w', hrun, k1, k2, k3, k4⟩ := run_append_own_at (P := P) w base S S e i0 z sz by_ ht hi hz0 hz1 hz2 hz3 T.pos v l.length _ hown ⟨g, off, none⟩ (x :: m).length cap ((x :: m).flatMap en) (fm_len T.len _)
    (fun j u hj => by
      have hj2 : j < (x :: m).length * sz := by rw [← fm_len T.len]; exact (List.getElem?_eq_some_iff.1 hj).1
      have hp := T.pos
      have hd : j / sz < (x :: m).length := (Nat.div_lt_iff_lt_mul hp).2 hj2
      have hm := Nat.mod_lt j hp
      have e1 : j / sz * sz + j % sz = j := by rw [Nat.mul_comm]; exact Nat.div_add_mod j sz
      have c0 := hcell (j / sz) hd (j % sz) hm
      have q0 := fm_at T.len (x :: m) (j / sz) (j % sz) hd hm
      rw [e1, hj] at q0
      rw [← q0, Nat.add_assoc, e1] at c0
      rw [add_plain]; exact c0) (by intro u hu; obtain ⟨y, _, hy⟩ := List.mem_flatMap.1 hu; exact T.one y u hy) (by unfold maxLen; omega) (by
       have : (l.length + (x :: m).length) * by_ ≤ 2000000 * 1000 := Nat.mul_le_mul (by omega) hby
       omega) hb
   refine ⟨v', w', hrun, ?_, k2, k4, fun _ h => by have := (k3.1 h).2; simp at this⟩
   unfold OwnE
   rw [List.length_append, List.flatMap_append]
   exact k1
end
theorem wpList_append_run {P : Program} {w w' : World} {ops : Array Oper} {rest : List Oper} {o : Oper} {a : Act} {Q : Exit → Act → World → Prop} (hg : o.guard = none) (s x : Operand) (t : TypeId)
 (hop : o.op = Op.call { callee := Callee.builtin Builtin.append, args := #[s, x], argTypes := #[t, t] }) (vs vx v : Value) (hs : a.eval s = vs) (hx : a.eval x = vx)
 (hrun : (Builtin.append_ #[t, t] o.type #[vs, vx]).run P w = .ok v w') (h : wpList P ops Q rest (a.put o.dst v) w') : wpList P ops Q (o :: rest) a w := by
 refine wpList_plain hg fun K hK => ?_
 unfold Oper.wp
 simp [execOp, hop, resolve, invoke, builtin, hs, hx, hrun, Result.andThen]
 exact hK _ _ h
end Go.Proofs.YtdmmbnnejbmdpaaGreatDoor
end
section
namespace Go.Proofs.YtdmmbnnejbmdpaaGreatDoor
open Go.RowKit
def lowI (x m : Int) : Int := x % 2 ^ m.toNat
def getI (w a m : Int) : Int := ((getN w.toNat a.toNat m.toNat : Nat) : Int)
def putI (w a m v : Int) : Int := ((putN w.toNat a.toNat m.toNat v.toNat : Nat) : Int)
theorem fits_yes (a m : Int) (w : World) (h0 : 0 ≤ a) (h1 : 1 ≤ m) (h2 : m ≤ 64) (h3 : a ≤ 64 - m) :
 Calls Tryz.prog 119 #[.int .i64 a, .int .i64 m] w fun e w' => e = .returned (.bool true) ∧ w = w' := by
 go_enter Tryz.func119, Tryz.ntmps119
 go_wp2
 go_ret
 exact ⟨rfl, rfl⟩
theorem lowest_any (x m : Int) (w : World) (h0 : 0 ≤ x) (h1 : x < 18446744073709551616) (h2 : 0 ≤ m) (h : m ≤ 64) :
 Calls Tryz.prog 120 #[.int .u64 x, .int .i64 m] w fun e w' => e = .returned (.int .u64 (lowI x m)) ∧ w = w' := by
 by_cases h64 : m = 64
 ·subst h64
  go_enter Tryz.func120, Tryz.ntmps120
  go_wp2
  go_ret
  refine ⟨?_, rfl⟩
  show Ending.returned (.int .u64 x) = _
  unfold lowI
  rw [show ((64 : Int).toNat) = 64 from rfl, show ((2 : Int) ^ 64) = 18446744073709551616 from by decide, Int.emod_eq_of_lt h0 h1]
 ·have hlt : m < 64 := by omega
  go_enter Tryz.func120, Tryz.ntmps120
  go_wp2
  go_ret
  refine ⟨?_, rfl⟩
  rw [low_walk x m.toNat h0 h1 (by omega)]
  rfl
theorem get_yes (x a m : Int) (w : World) (h0 : 0 ≤ x) (h1 : x < 18446744073709551616) (ha : 0 ≤ a) (hm : 1 ≤ m) (h2 : m ≤ 64) (h3 : a ≤ 64 - m) :
 Calls Tryz.prog 101 #[.int .u64 x, .int .i64 a, .int .i64 m] w fun e w' => e = .returned (.int .u64 (getI x a m)) ∧ w = w' := by
 have h63 : a < 64 := by omega
 go_enter Tryz.func101, Tryz.ntmps101
 have hs := shr_bd x a.toNat h0 h1
 go_wp2_with (first | (go_at_call 119; refine (fits_yes _ _ _ ha hm h2 h3).mono ?_; rintro e w' ⟨rfl, rfl⟩) | (go_at_call 120; refine (lowest_any _ m _ hs.1 hs.2 (by omega) h2).mono ?_; rintro e w' ⟨rfl, rfl⟩))
 go_ret
 refine ⟨?_, rfl⟩
 show Ending.returned (.int .u64 (lowI (x / 2 ^ a.toNat) m)) = _
 unfold lowI getI getN
 obtain ⟨X, rfl⟩ := Int.eq_ofNat_of_zero_le h0
 rw [Int.natCast_emod, Int.natCast_ediv, Int.natCast_pow, Int.natCast_pow]
 rfl
theorem put_yes (x a m v : Int) (w : World) (h0 : 0 ≤ x) (h1 : x < 18446744073709551616) (ha : 0 ≤ a) (hm : 1 ≤ m) (h2 : m ≤ 64) (h3 : a ≤ 64 - m) (hv0 : 0 ≤ v) (hv1 : v < 18446744073709551616) :
 Calls Tryz.prog 129 #[.int .u64 x, .int .i64 a, .int .i64 m, .int .u64 v] w fun e w' => e = .returned (.int .u64 (putI x a m v)) ∧ w = w' := by
 have h63 : a < 64 := by omega
 go_enter Tryz.func129, Tryz.ntmps129
 go_wp2_with (first | (go_at_call 119; refine (fits_yes _ _ _ ha hm h2 h3).mono ?_; rintro e w' ⟨rfl, rfl⟩) | (go_at_call 120; refine (lowest_any _ m _ (by omega) (by omega) (by omega) h2).mono ?_; rintro e w' ⟨rfl, rfl⟩))
 go_ret
 refine ⟨?_, rfl⟩
 show Ending.returned (.int .u64 (bits BinOp.or IntKind.u64 (bits BinOp.andNot IntKind.u64 x (IntKind.u64.wrap (lowI 18446744073709551615 m * 2 ^ a.toNat))) (IntKind.u64.wrap (lowI v m * 2 ^ a.toNat)))) = _
 unfold lowI putI
 rw [put_walk x v a.toNat m.toNat h0 h1 hv0 (by omega)]
theorem getI_bd (x a m : Int) (h0 : 0 ≤ x) (h1 : x < 18446744073709551616) : 0 ≤ getI x a m ∧ getI x a m < 18446744073709551616 := by
 unfold getI getN
 have h2 : x.toNat / 2 ^ a.toNat % 2 ^ m.toNat ≤ x.toNat := Nat.le_trans (Nat.mod_le _ _) (Nat.div_le_self _ _)
 omega
end Go.Proofs.YtdmmbnnejbmdpaaGreatDoor
end
section
namespace Go.Proofs.YtdmmbnnejbmdpaaGreatDoor
theorem blksAt_none {i x : Nat} (h1 : ¬ kN x = 1) (h2 : ¬ kN x = 2) : blksAt i x = [] := by unfold blksAt; rw [if_neg h1, if_neg h2]
end Go.Proofs.YtdmmbnnejbmdpaaGreatDoor
end
section
namespace Go.Proofs.YtdmmbnnejbmdpaaGreatDoor
theorem p16 : (2 : Nat) ^ 16 = 65536 := by decide
theorem p32 : (2 : Nat) ^ 32 = 4294967296 := by decide
theorem p48 : (2 : Nat) ^ 48 = 281474976710656 := by decide
theorem p64 : (2 : Nat) ^ 64 = 18446744073709551616 := by decide
def hdW (t s : Nat) : Nat := t + 65536 * s + 18038886832455811072
theorem put1 {t : Nat} (h : t < 65536) : putN 0 0 16 t = t := by
 unfold putN
 rw [Nat.zero_add, p16, Nat.pow_zero]; omega
theorem put2 {t s : Nat} (h : t < 65536) (hs : s < 65536) : putN t 16 16 s = t + 65536 * s := by
 unfold putN
 rw [show (16 + 16 : Nat) = 32 from rfl, p16, p32, Nat.mod_eq_of_lt h, Nat.mod_eq_of_lt hs, Nat.div_eq_of_lt (show t < 4294967296 by omega), Nat.zero_mul]; omega
theorem put3 {x : Nat} (h : x < 4294967296) : putN x 48 16 64087 = x + 18038886832455811072 := by
 unfold putN
 rw [show (48 + 16 : Nat) = 64 from rfl, p16, p48, p64, Nat.mod_eq_of_lt (show x < 281474976710656 by omega), Nat.div_eq_of_lt (show x < 18446744073709551616 by omega), Nat.zero_mul]
theorem get1 (x : Nat) : getN x 0 16 = x % 65536 := by
 unfold getN; rw [p16, Nat.pow_zero, Nat.div_one]
theorem get2 (x : Nat) : getN x 16 16 = x / 65536 % 65536 := by
 unfold getN; rw [p16]
theorem hdW_is (x : Nat) : hdW (x % 65536) (x / 65536 % 65536) = x ↔ x / 4294967296 = 4200005632 := by unfold hdW; omega
def hdB (t s n : Int) : Bool := decide (1 ≤ t ∧ t ≤ 65535 ∧ 0 ≤ s ∧ s ≤ 4096 ∧ ¬ n = 0)
end Go.Proofs.YtdmmbnnejbmdpaaGreatDoor
end
