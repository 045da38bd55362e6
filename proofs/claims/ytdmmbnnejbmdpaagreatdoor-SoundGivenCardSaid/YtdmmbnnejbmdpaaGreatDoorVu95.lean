/-
  Part of the proof of SoundTells,SoundGiven.
-/
import Derived.Test.YtdmmbnnejbmdpaaGreatDoorVu91
import Derived.Test.YtdmmbnnejbmdpaaGreatDoorVu916
import Derived.Test.YtdmmbnnejbmdpaaGreatDoorVu92
import Derived.Test.YtdmmbnnejbmdpaaGreatDoorVu93
import Derived.Test.YtdmmbnnejbmdpaaGreatDoorVu94
import Derived.Test.YtdmmbnnejbmdpaaGreatDoorRows
import Derived.Deep.RegionHeld3
import Derived.Laws.EntriesVeiled
import Derived.OwnWalkIn
import Derived.RangeFuncBound
import Derived.RangeFuncBox
import Derived.RangeFuncCalls
import Derived.RangeFuncFrom
import Derived.RangeFuncLeaves
import Derived.RangeFuncNested
import Derived.RangeFuncWrites
import Derived.LoopIn
import Derived.LoopNIn
import Derived.Shelf.Abstract
import Derived.Shelf.RegionOpen
import Derived.TacticsInMore
import Derived.WalkKit
import Derived.BigQuiet
import Derived.Carry
import Derived.ChangeSlices
import Derived.Deep.QuietTactic
import Derived.Deep.SlicePairs
import Derived.Handy
import Derived.Laws.BitsAllLaws
import Derived.Laws.CopyOwn
import Derived.Laws.ShiftsVarLaws
import Derived.Lib.AppendZerosOnto
import Derived.Lib.Hide
import Derived.Lib.SliceRun
import Derived.Maps.AppendAt
import Derived.OpenShut
import Derived.OwnWalk
import Derived.ProofKit
import Derived.WalkLawsBesides
import Derived.WalkSpells
import Derived.Lib.LaidTab
import Derived.Lib.SmallJoins
import Derived.Test.YtdmmbnnejbmdpaaGreatDoorVu90
set_option maxRecDepth 10000
set_option linter.unusedVariables false
set_option linter.unusedSimpArgs false
section
namespace Go.Proofs.YtdmmbnnejbmdpaaGreatDoor
open Go.RowKit Go.ChangeShapes Go.WideShapes Go.Deep
theorem KL.sl {w : World} {v : Value} {l : List Nat} (h : KL .u64 w v l) : SL w v l := by
 obtain ⟨A, cap, hv, h⟩ := h
 by_cases h0 : 0 < l.length
 ·obtain ⟨g, off, rfl, hg, hc, hi⟩ := h h0
  exact .inr ⟨g, off, cap, hv, hg, hc, hi⟩
 ·have : l = [] := List.eq_nil_of_length_eq_zero (by omega)
  subst this
  exact .inl ⟨rfl, A, cap, hv⟩
theorem SL.kl {w : World} {v : Value} {l : List Nat} (h : SL w v l) : KL .u64 w v l := by
 rcases h with ⟨rfl, A, cap, hv⟩ | ⟨g, off, cap, hv, hg, hc, hi⟩
 ·exact ⟨A, cap, hv, fun h => by simp at h⟩
 ·exact ⟨_, cap, hv, fun _ => ⟨g, off, rfl, hg, hc, hi⟩⟩
theorem OwnU.set {w : World} {base g cap n i y : Nat} {I : List Nat} (h : OwnU w base (.slice (some ⟨g, 0, none⟩) n cap) I) (hn : I.length = n) (hi : i < n) : OwnU (w.setCell ⟨g, i, none⟩ (.int .u64 (y : Nat))) base (.slice (some ⟨g, 0, none⟩) n cap) (I.set i y) := by
 unfold OwnU at h ⊢
 rw [hn] at h
 rw [List.length_set, hn, List.map_set]
 exact (World.ownsRow.stored h i _).1
theorem OwnU.cell {w : World} {base g cap n i : Nat} {I : List Nat} (h : OwnU w base (.slice (some ⟨g, 0, none⟩) n cap) I) (hn : I.length = n) (hi : i < n) : w.cell? ⟨g, i, none⟩ = some (.int .u64 (I.getD i 0 : Nat)) ∧ w.frozen? ⟨g, i, none⟩ = false := by
 unfold OwnU at h
 rw [hn] at h
 refine ⟨?_, h.frozenAt _⟩
 rw [World.ownsRow.cellAt h i (by omega), List.getElem?_map, List.getElem?_eq_getElem (by omega), List.getD_eq_getElem?_getD, List.getElem?_eq_getElem (by omega)]
 rfl
theorem OwnU.form {w : World} {base : Nat} {v : Value} {I : List Nat} (h : OwnU w base v I) : ∃ A cap, v = .slice A I.length cap ∧ (0 < I.length → ∃ g, A = some ⟨g, 0, none⟩ ∧ base ≤ g ∧ g < w.heap.size) := by
 rcases h.2 with ⟨h, h0⟩ | ⟨g, cap, cur, h, hb, hg, _⟩
 ·exact ⟨none, 0, by rw [h, h0], fun q => by omega⟩
 ·exact ⟨_, _, h, fun _ => ⟨g, rfl, hb, (Array.getElem?_eq_some_iff.1 hg).1⟩⟩
abbrev Ex := Int × Value × List Nat
def eE (x : Ex) : List Value := [.int .i64 x.1, x.2.1]
def eV (x : Ex) : Value := .agg (eE x).toArray
def canB (a m : Int) : Bool := decide (0 ≤ a) && decide (a < 65536) && decide (1 ≤ m) && decide (m ≤ 4096)
theorem canB_iff {a m : Int} : canB a m = true ↔ 0 ≤ a ∧ a < 65536 ∧ 1 ≤ m ∧ m ≤ 4096 := by
 unfold canB
 simp only [Bool.and_eq_true, decide_eq_true_eq, and_assoc]
def rightB (x : Ex) : Bool := canB x.1 x.2.2.length
def firstW (g a m : Nat) : Nat := a + 1048576 * m + 281474976710656 * (g % 65536)
def encW (g : Nat) (a : Nat) (l : List Nat) : List Nat := (firstW g a l.length :: l) ++ [moreN 0 (firstW g a l.length :: l)]
end Go.Proofs.YtdmmbnnejbmdpaaGreatDoor
end
section
namespace Go.Proofs.YtdmmbnnejbmdpaaGreatDoor
open Go.RowKit Go.ChangeShapes Go.WideShapes Go.Deep
theorem KL.one (w : World) (a : Nat) (t : TypeId) : KL .u64 (w.alloc (.cells #[.int .u64 (a : Nat)] t)) (.slice (some ⟨w.heap.size, 0, none⟩) 1 1) [a] := by
 refine ⟨_, _, rfl, fun _ => ⟨_, 0, rfl, by simp, Nat.le_refl _, fun i hi => ?_⟩⟩
 simp only [List.length_singleton] at hi
 obtain rfl : i = 0 := by omega
 exact (row_cell (World.alloc_heap_new w _) 0).1
theorem firstW_lt (g a m : Nat) (ha : a < 1048576) (hm : m < 65536) : firstW g a m < 18446744073709551616 := by
 unfold firstW
 have : g % 65536 < 65536 := Nat.mod_lt _ (by decide)
 generalize g % 65536 = k at *
 omega
end Go.Proofs.YtdmmbnnejbmdpaaGreatDoor
end
section
namespace Go.Proofs.YtdmmbnnejbmdpaaGreatDoor
open Go.RowKit Go.ChangeShapes Go.WideShapes Go.Deep
def C2 (w : World) (b : Nat) (x y : Value) : Prop := w.cell? ⟨b, 0, none⟩ = some x ∧ w.cell? ⟨b, 1, none⟩ = some y
theorem C2.lt {w : World} {b : Nat} {x y : Value} (h : C2 w b x y) : b < w.heap.size := World.block_lt_of_cell? w _ h.1
theorem C2.keep {W w1 : World} {b : Nat} {x y : Value} (h : C2 W b x y) (hb : Below W.heap.size W w1) : C2 w1 b x y :=
 ⟨by rw [(bcell hb).1 _ _ h.lt]; exact h.1, by rw [(bcell hb).1 _ _ h.lt]; exact h.2⟩
theorem C2.new (w : World) (x y : Value) (t : TypeId) : C2 (w.alloc (.cells #[x, y] t)) w.heap.size x y := by
 refine ⟨?_, ?_⟩ <;> simp [go_sem]
theorem C2.alloc {W : World} {b : Nat} {x y : Value} (h : C2 W b x y) (o : Obj) : C2 (W.alloc o) b x y :=
 h.keep (bZ _ _)
theorem C2.drew {W : World} {b : Nat} {x y : Value} (h : C2 W b x y) : C2 W.drew b x y := h
def F2 (w : World) (b : Nat) : Prop := w.frozen? ⟨b, 0, none⟩ = false ∧ w.frozen? ⟨b, 1, none⟩ = false
theorem F2.keep {W w1 : World} {b : Nat} (h : F2 W b) (hl : b < W.heap.size) (hb : Below W.heap.size W w1) : F2 w1 b :=
 ⟨by rw [(bcell hb).2 _ _ hl]; exact h.1, by rw [(bcell hb).2 _ _ hl]; exact h.2⟩
theorem F2.drew {W : World} {b : Nat} (h : F2 W b) : F2 W.drew b := h
theorem F2.new (w : World) (x y : Value) (t : TypeId) : F2 (w.alloc (.cells #[x, y] t)) w.heap.size := by
 refine ⟨?_, ?_⟩ <;> simp [go_sem]
theorem F2.alloc {W : World} {b : Nat} (h : F2 W b) (hl : b < W.heap.size) (o : Obj) : F2 (W.alloc o) b :=
 h.keep hl (bZ _ _)
theorem st2_ex {W : World} {g : Nat} {a b : Value} (h : C2 W g a b) (x y : Value) : ∃ w9, w9 = ((W.setCell ⟨g, 0, none⟩ x).setCell ⟨g, 1, none⟩ y) ∧ C2 w9 g x y ∧ Below g W w9 := by
 obtain ⟨h0, h1⟩ := h
 refine ⟨_, rfl, ?_, ((Below.refl _ _).setCell (by simp) _).setCell (by simp) _⟩
 refine ⟨?_, ?_⟩ <;> simp [go_sem, *]
theorem KL.drop {K : IntKind} {w : World} {A : Option Addr} {n cap : Nat} {l : List Nat} (h : KL K w (.slice A n cap) l) (t : Nat) (ht : t ≤ n) : KL K w (.slice (if cap = t then A else A.map (·.add (t * 1))) (n - t) (cap - t)) (l.drop t) := by
 obtain ⟨A', cap', hv, h⟩ := h
 simp only [Value.slice.injEq] at hv
 obtain ⟨rfl, rfl, rfl⟩ := hv
 refine ⟨_, _, by rw [List.length_drop], fun hl => ?_⟩
 rw [List.length_drop] at hl
 obtain ⟨g, off, rfl, hg, hc, hi⟩ := h (by omega)
 refine ⟨g, off + t, ?_, hg, by rw [List.length_drop]; omega, fun i h => ?_⟩
 ·rw [if_neg (by omega), Option.map_some, add_plain, Nat.mul_one]
 ·rw [List.length_drop] at h
  rw [Nat.add_assoc, hi (t + i) (by omega), List.getD_eq_getElem?_getD, List.getD_eq_getElem?_getD, List.getElem?_drop]
end Go.Proofs.YtdmmbnnejbmdpaaGreatDoor
end
section
namespace Go.Proofs.YtdmmbnnejbmdpaaGreatDoor
open Go.RowKit Go.ChangeShapes Go.WideShapes Go.Deep Go.Shelf
attribute [local go_sem] Oper.semAt_some
abbrev Pe := Int × List Nat
abbrev Ev := Ex × Bool
def pl (x : Ev) : Option Pe := if x.2 then some (x.1.1, x.1.2.2) else none
def OwnAt (w : World) (Bo b : Nat) : Prop := ∃ v, w.cell? ⟨Bo, 0, none⟩ = some v ∧ v.ownBlock = some b
def OwnLt (w : World) (Bo : Nat) : Prop := ∀ b, OwnAt w Bo b → b < w.heap.size
theorem ownAt_keep {w w1 : World} {Bo b : Nat} (hb : Below w.heap.size w w1) (hl : Bo < w.heap.size) : OwnAt w1 Bo b ↔ OwnAt w Bo b := by
 unfold OwnAt
 rw [(bcell hb).1 Bo 0 hl]
def Kp (n₀ Bo : Nat) (X Y : World) : Prop := Below n₀ X Y ∧ (∀ b cs t f, X.heap[b]? = some (.cells cs t f) → b ≠ Bo → ¬ OwnAt X Bo b → Y.heap[b]? = X.heap[b]?) ∧ (∀ b, b < X.heap.size → OwnAt Y Bo b → OwnAt X Bo b) ∧ (OwnLt X Bo → OwnLt Y Bo)
theorem kp_t {n₀ Bo : Nat} {X Y Z : World} (h : Kp n₀ Bo X Y) (k : Kp n₀ Bo Y Z) : Kp n₀ Bo X Z :=
 ⟨h.1.trans k.1, fun b cs t f hb hne ho => by
   have h1 := h.2.1 b cs t f hb hne ho
   have hlt := (Array.getElem?_eq_some_iff.1 hb).1
   exact (k.2.1 b cs t f (h1.trans hb) hne (fun q => ho (h.2.2.1 b hlt q))).trans h1,
  fun b hlt q => h.2.2.1 b hlt (k.2.2.1 b (Nat.lt_of_lt_of_le hlt h.1.size) q), fun q => k.2.2.2 (h.2.2.2 q)⟩
theorem kp_b {n₀ Bo : Nat} {w : World} (hn : n₀ ≤ w.heap.size) (hB : Bo < w.heap.size) (W : World) (l : Nat) (o o' : Obj) (hl : w.heap.size ≤ l) (h : W.heap[l]? = some o) (h1 : o.isCells = false) (h2 : o.isWalk = false) : Kp n₀ Bo W (W.putObj l o') := by
 have hg := grownBy_putObj' W l o'
 have hlt := (Array.getElem?_eq_some_iff.1 h).1
 have hc : (W.putObj l o').cell? ⟨Bo, 0, none⟩ = W.cell? ⟨Bo, 0, none⟩ := World.cell?_of_block (hg.block Bo (by omega) (fun e => by cases e; omega))
 have ho : ∀ b, OwnAt (W.putObj l o') Bo b ↔ OwnAt W Bo b := fun b => by unfold OwnAt; rw [hc]
 refine ⟨belowK_b hn W l o o' hl h h1 h2, fun b cs t f hb hne _ => hg.block b (Array.getElem?_eq_some_iff.1 hb).1 (fun e => ?_), fun b _ q => (ho b).1 q, fun q b hb => Nat.lt_of_lt_of_le (q b ((ho b).1 hb)) hg.size⟩
 cases e
 rw [hb] at h
 cases h
 simp [Obj.isCells] at h1
theorem kp_of {n₀ Bo : Nat} {X Y : World} (h : Below X.heap.size X Y) (hn : n₀ ≤ X.heap.size) (hB : Bo < X.heap.size) : Kp n₀ Bo X Y :=
 ⟨h.mono hn, fun b cs t f hb _ _ => h.block b (Array.getElem?_eq_some_iff.1 hb).1, fun b _ q => (ownAt_keep h hB).1 q, fun q b hb => Nat.lt_of_lt_of_le (q b ((ownAt_keep h hB).1 hb)) h.size⟩
end Go.Proofs.YtdmmbnnejbmdpaaGreatDoor
end
section
namespace Go.Proofs.YtdmmbnnejbmdpaaGreatDoor
open Go.RowKit Go.ChangeShapes Go.WideShapes Go.Deep
abbrev Ox := Int × Int × Nat
def opE (o : Ox) : List Value := [.int .i64 o.1, .int .i64 o.2.1, .int .u64 (o.2.2 : Nat)]
def opV (o : Ox) : Value := .agg #[.int .i64 o.1, .int .i64 o.2.1, .int .u64 (o.2.2 : Nat)]
theorem opE_len (o : Ox) : (opE o).length = 3 := rfl
def OB (o : Ox) : Prop := -9223372036854775808 ≤ o.1 ∧ o.1 ≤ 9223372036854775807 ∧ -9223372036854775808 ≤ o.2.1 ∧ o.2.1 ≤ 9223372036854775807 ∧ o.2.2 < 18446744073709551616
def OPL (w : World) (v : Value) (l : List Ox) : Prop := EL 3 opE w v l
theorem OPL.keep {w w1 : World} {v : Value} {l : List Ox} (h : OPL w v l) (hb : Below w.heap.size w w1) : OPL w1 v l := EL.keep h hb
theorem OPL.form {w : World} {v : Value} {l : List Ox} {n : Nat} (h : OPL w v l) (hn : l.length = n) : ∃ A cap, v = .slice A n cap ∧
 ∀ w1 i, Below w.heap.size w w1 → i < n → ∃ g off, A = some ⟨g, off, none⟩ ∧ n ≤ cap ∧ g < w.heap.size ∧ g < w1.heap.size ∧ w1.cell? ⟨g, off + i * 3, none⟩ = some (.int .i64 (l.getD i default).1) ∧ w1.cell? ⟨g, off + i * 3 + 1, none⟩ = some (.int .i64 (l.getD i default).2.1) ∧ w1.cell? ⟨g, off + i * 3 + 2, none⟩ = some (.int .u64 ((l.getD i default).2.2 : Nat)) := by
 obtain ⟨A, cap, hv, h⟩ := EL.form h hn
 refine ⟨A, cap, hv, fun w1 i hb hi => ?_⟩
 obtain ⟨g, off, hA, h1, h2, h3, hc⟩ := h w1 i hb hi
 exact ⟨g, off, hA, h1, h2, h3, hc 0 (by omega), hc 1 (by omega), hc 2 (by omega)⟩
def C3 (w : World) (b : Nat) (x y z : Value) : Prop := w.cell? ⟨b, 0, none⟩ = some x ∧ w.cell? ⟨b, 1, none⟩ = some y ∧ w.cell? ⟨b, 2, none⟩ = some z
theorem C3.lt {w : World} {b : Nat} {x y z : Value} (h : C3 w b x y z) : b < w.heap.size := World.block_lt_of_cell? w _ h.1
theorem C3.keep {W w1 : World} {b : Nat} {x y z : Value} (h : C3 W b x y z) (hb : Below W.heap.size W w1) : C3 w1 b x y z :=
 ⟨by rw [(bcell hb).1 _ _ h.lt]; exact h.1, by rw [(bcell hb).1 _ _ h.lt]; exact h.2.1, by rw [(bcell hb).1 _ _ h.lt]; exact h.2.2⟩
theorem C3.new (w : World) (x y z : Value) (t : TypeId) : C3 (w.alloc (.cells #[x, y, z] t)) w.heap.size x y z := by
 refine ⟨?_, ?_, ?_⟩ <;> simp [go_sem]
theorem C3.alloc {W : World} {b : Nat} {x y z : Value} (h : C3 W b x y z) (o : Obj) : C3 (W.alloc o) b x y z := h.keep (bZ _ _)
def wrongB (o : Ox) : Bool := decide (o.1 < 0) || decide (2 < o.1) || decide (o.2.1 < 0) || decide (65536 ≤ o.2.1)
theorem wrongB_f {o : Ox} (h : wrongB o = false) : 0 ≤ o.1 ∧ o.1 ≤ 2 ∧ 0 ≤ o.2.1 ∧ o.2.1 < 65536 := by
 simp only [wrongB, Bool.or_eq_false_iff, decide_eq_false_iff_not] at h; omega
theorem can_any_rd (o : Ox) (w : World) : Calls Tryz.prog 93 #[opV o] w fun e w' => e = .returned (.bool (!wrongB o)) ∧ Below w.heap.size w w' := by
 obtain ⟨k, a, v⟩ := o
 unfold opV
 simp only []
 have fin : ∀ b : Bool, b = !wrongB (k, a, v) → ∀ w1, Below w.heap.size w w1 → Ending.returned (.bool b) = .returned (.bool (!wrongB (k, a, v))) ∧ Below w.heap.size w w1 := fun b h w1 hb => ⟨by rw [h], hb⟩
 replace fin := lh fin
 have hB : Below w.heap.size w (w.alloc (.cells #[.int .i64 k, .int .i64 a, .int .u64 (v : Nat)] (144 : Nat))) := bZ _ _
 obtain ⟨c0, c1, c2⟩ := C3.new w (.int .i64 k) (.int .i64 a) (.int .u64 (v : Nat)) (144 : Nat)
 by_cases h1 : k < 0
 ·have e := lh (show false = !wrongB (k, a, v) from by simp [wrongB, h1])
  have h1' : ¬ (0 ≤ k) := by omega
  go_enter Tryz.func93, Tryz.ntmps93
  go_wp2_with fail
  go_ret
  first | exact fin.out _ e.out _ hB | exact fin.out _ (by rw [← e.out]; simp; omega) _ hB
 by_cases h2 : 2 < k
 ·have e := lh (show false = !wrongB (k, a, v) from by simp [wrongB, h2])
  have h1' : 0 ≤ k := by omega
  go_enter Tryz.func93, Tryz.ntmps93
  go_wp2_with fail
  go_ret
  first | exact fin.out _ e.out _ hB | exact fin.out _ (by rw [← e.out]; simp; omega) _ hB
 by_cases h3 : a < 0
 ·have e := lh (show false = !wrongB (k, a, v) from by simp [wrongB, h3])
  have h1' : 0 ≤ k := by omega
  have h2' : k ≤ 2 := by omega
  have h3' : ¬ (0 ≤ a) := by omega
  go_enter Tryz.func93, Tryz.ntmps93
  go_wp2_with fail
  go_ret
  first | exact fin.out _ e.out _ hB | exact fin.out _ (by rw [← e.out]; simp; omega) _ hB
 by_cases h4 : 65536 ≤ a
 ·have e := lh (show false = !wrongB (k, a, v) from by simp [wrongB, h4])
  have h1' : 0 ≤ k := by omega
  have h2' : k ≤ 2 := by omega
  have h3' : 0 ≤ a := by omega
  have h4' : 65535 < a := by omega
  go_enter Tryz.func93, Tryz.ntmps93
  go_wp2_with fail
  go_ret
  first | exact fin.out _ e.out _ hB | exact fin.out _ (by rw [← e.out]; simp; omega) _ hB
 ·have e := lh (show true = !wrongB (k, a, v) from by simp [wrongB]; omega)
  have h1' : 0 ≤ k := by omega
  have h2' : k ≤ 2 := by omega
  have h3' : 0 ≤ a := by omega
  have h4' : a ≤ 65535 := by omega
  go_enter Tryz.func93, Tryz.ntmps93
  go_wp2_with fail
  go_ret
  first | exact fin.out _ e.out _ hB | exact fin.out _ (by rw [← e.out]; simp; omega) _ hB
def wordOp (o : Ox) : Int := 4 * o.2.1 + o.1
end Go.Proofs.YtdmmbnnejbmdpaaGreatDoor
end
section
namespace Go.Proofs.YtdmmbnnejbmdpaaGreatDoor
open Go.Lib Go.RowKit Go.ChangeShapes Go.WideShapes Go.Deep
structure Chg (S : Nat → Prop) (w w' : World) : Prop where
 os : w'.os = w.os
 tape : w'.tape = w.tape
 output : w'.output = w.output
 size : w.heap.size ≤ w'.heap.size
 block : ∀ k, k < w.heap.size → ¬ S k → w'.heap[k]? = w.heap[k]?
theorem Chg.refl (S : Nat → Prop) (w : World) : Chg S w w := ⟨rfl, rfl, rfl, Nat.le_refl _, fun _ _ _ => rfl⟩
theorem Chg.trans {S S2 : Nat → Prop} {a b c : World} (h : Chg S a b) (k : Chg S2 b c) (hs : ∀ j, S2 j → S j ∨ a.heap.size ≤ j) : Chg S a c :=
 ⟨k.os.trans h.os, k.tape.trans h.tape, k.output.trans h.output, Nat.le_trans h.size k.size, fun j hj hn => (k.block j (Nat.lt_of_lt_of_le hj h.size) (fun q => by rcases hs j q with q | q; exact hn q; omega)).trans (h.block j hj hn)⟩
theorem Chg.of_below (S : Nat → Prop) {w w' : World} (h : Below w.heap.size w w') : Chg S w w' := ⟨h.os, h.tape, h.output, h.size, fun k hk _ => h.block k hk⟩
theorem Chg.of_grown {S : Nat → Prop} {w w' : World} {row : Option Nat} (h : w.grownBy w' row) (hr : ∀ k, row = some k → S k ∨ w.heap.size ≤ k) : Chg S w w' :=
 ⟨h.os, h.tape, h.output, h.size, fun k hk hn => h.block k hk (fun e => by rcases hr k e.symm with q | q; exact hn q; omega)⟩
theorem size_setCell (w : World) (a : Addr) (v : Value) : (w.setCell a v).heap.size = w.heap.size := by simp [World.setCell]
theorem Chg.setCell {S : Nat → Prop} (w : World) (b o : Nat) (v : Value) (h : S b) : Chg S w (w.setCell ⟨b, o, none⟩ v) :=
 ⟨rfl, rfl, rfl, by rw [size_setCell]; exact Nat.le_refl _, fun k hk hn => Below.heap_setCell _ _ _ _ (fun e => hn (by simp only [] at e; rw [e]; exact h))⟩
theorem Chg.below {S : Nat → Prop} {w w' : World} {N : Nat} (h : Chg S w w') (hN : ∀ k, S k → N ≤ k) (hN2 : N ≤ w.heap.size) : Below N w w' :=
 ⟨h.os, h.tape, h.output, h.size, fun k hk => h.block k (by omega) (fun q => by have := hN k q; omega)⟩
theorem OwnE.chg {α : Type} {e : TypeId} {sz : Nat} {en : α → List Value} {S : Nat → Prop} {w w1 : World} {base : Nat} {v : Value} {l : List α} (h : OwnE e sz en w base v l) (hc : Chg S w w1) (hn : ∀ k, v.ownBlock = some k → ¬ S k) : OwnE e sz en w1 base v l := by
 refine ⟨h.1, ?_⟩
 rcases h.2 with h2 | ⟨g, cap, cur, hv, hbg, hg, h1, h2, h3, h4⟩
 ·exact .inl h2
 ·exact .inr ⟨g, cap, cur, hv, hbg, by rw [hc.block g (Array.getElem?_eq_some_iff.1 hg).1 (hn g (by rw [hv]; rfl))]; exact hg, h1, h2, h3, h4⟩
theorem OwnU.chg {F : Nat → Prop} {w w1 : World} {base : Nat} {v : Value} {l : List Nat} (h : OwnU w base v l) (hc : Chg F w w1) (hn : ∀ k, v.ownBlock = some k → ¬ F k) : OwnU w1 base v l := by
 refine ⟨h.1, ?_⟩
 rcases h.2 with h2 | ⟨g, cap, cur, hv, hbg, hg, h1, h2, h3, h4⟩
 ·exact .inl h2
 ·exact .inr ⟨g, cap, cur, hv, hbg, by rw [hc.block g (Array.getElem?_eq_some_iff.1 hg).1 (hn g (by rw [hv]; rfl))]; exact hg, h1, h2, h3, h4⟩
end Go.Proofs.YtdmmbnnejbmdpaaGreatDoor
end
section
namespace Go.Proofs.YtdmmbnnejbmdpaaGreatDoor
open Go.RowKit Go.ChangeShapes
theorem laid_tail {P : Program} {x : String × DataW Unit} {r : List (String × DataW Unit)} {w : World} (h : laidMet P (x :: r) w) : laidMet P r w := by
 obtain ⟨ps, hv, hnd, hrows⟩ := h
 obtain ⟨n, d⟩ := x
 obtain ⟨g, t, cs, fuel, p, q, _, _, _, _, hq, rfl⟩ := hv
 exact ⟨q, hq, List.Nodup.sublist (List.sublist_append_right _ _) hnd, fun b off hm => hrows b off (List.mem_append_right _ hm)⟩
theorem pair_of_head {P : Program} {W : World} {name : String} {x y : Int} {rest : List (String × DataW Unit)} {g : Nat} {t : TypeId} {f0 f1 : Field}
 (hg : P.globalNamed name = some g) (hty : (P.globals[g]?).map (·.type) = some t) (hs : P.underlying t = some (.struct #[f0, f1])) (o0 : f0.offset = 0) (o1 : f1.offset = 1)
 (e0 : P.underlying f0.type = some (.int .i64)) (e1 : P.underlying f1.type = some (.int .i64)) (c0 : P.cellsOf f0.type = 1) (c1 : P.cellsOf f1.type = 1)
 (h : laidMet P ((name, .agg [.lit (.int .i64 x), .lit (.int .i64 y)]) :: rest) W) : CC W g x y := by
 obtain ⟨ps, ⟨g', t', cs, fuel, p, q, hg', ht', hvar, hd, _, _⟩, _⟩ := h
 obtain rfl := Option.some.inj (hg.symm.trans hg')
 obtain rfl := Option.some.inj (hty.symm.trans ht')
 obtain ⟨y0, y1, n, hx, hl, h0, h1⟩ := trod_struct2 hs hd
 rw [o0, c0] at h0
 rw [o1, c1] at h1
 obtain ⟨n0, hc0, hy0, _⟩ := DataW.trod_int e0 h0
 obtain ⟨n1, hc1, hy1, _⟩ := DataW.trod_int e1 h1
 rw [hy0, hy1] at hx
 simp only [Prod.mk.injEq, DataW.agg.injEq, List.cons.injEq, DataW.lit.injEq, Lit.int.injEq, true_and, and_true] at hx
 obtain ⟨⟨rfl, rfl⟩, _⟩ := hx
 have a0 : cs[0]? = some (.int .i64 x) := by
  have := congrArg (·[0]?) hc0
  simpa [List.getElem?_take, List.getElem?_drop] using this
 have a1 : cs[1]? = some (.int .i64 y) := by
  have := congrArg (·[0]?) hc1
  simpa [List.getElem?_take, List.getElem?_drop] using this
 exact ⟨(World.var?_cell hg hvar 0).trans a0, (World.var?_cell hg hvar 1).trans a1⟩
end Go.Proofs.YtdmmbnnejbmdpaaGreatDoor
end
