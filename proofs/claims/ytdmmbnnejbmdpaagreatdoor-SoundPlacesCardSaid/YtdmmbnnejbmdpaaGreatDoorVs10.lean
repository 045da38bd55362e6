/-
  Part of the proof of SoundPlaces.
-/
import Derived.Test.YtdmmbnnejbmdpaaGreatDoorVs1
import Derived.Test.YtdmmbnnejbmdpaaGreatDoorVs9
import Derived.Test.YtdmmbnnejbmdpaaGreatDoorRows
import Derived.RangeFuncBound
import Derived.RangeFuncBox
import Derived.RangeFuncCalls
import Derived.RangeFuncFrom
import Derived.RangeFuncLeaves
import Derived.RangeFuncNested
import Derived.RangeFuncWrites
import Derived.Laws.EntriesVeiled
import Derived.Laws.RangeAny
import Derived.Lib.AppendIntMem
import Derived.Lib.ItoaNum
import Derived.Lib.Split
import Derived.Lib.SplitLaws
import Derived.Shelf.LaysM
import Derived.Shelf.RegionOpen
import Derived.Test.YtdmmbnnejbmdpaaGreatDoorVs0
set_option linter.unusedVariables false
set_option linter.unusedSimpArgs false
section
namespace Go.Proofs.YtdmmbnnejbmdpaaGreatDoor
open Go.RowKit Go.ChangeShapes Go.WideShapes Go.Deep
theorem KL.one (w : World) (a : Nat) (t : TypeId) : KL .u64 (w.alloc (.cells #[.int .u64 (a : Nat)] t)) (.slice (some ⟨w.heap.size, 0, none⟩) 1 1) [a] := by
 refine ⟨_, _, rfl, fun _ => ⟨_, 0, rfl, by simp, Nat.le_refl _, fun i hi => ?_⟩⟩
 simp only [List.length_singleton] at hi
 obtain rfl : i = 0 := by omega
 exact (row_cell (World.alloc_heap_new w _) 0).1
theorem firstW_lt (g a m : Nat) (ha : a < 1048576) (hm : m < 65536) : firstW g a m < 18446744073709551616 := by
 unfold firstW
 have : g % 65536 < 65536 := Nat.mod_lt _ (by decide)
 generalize g % 65536 = k at *
 omega
end Go.Proofs.YtdmmbnnejbmdpaaGreatDoor
end
section
namespace Go.Proofs.YtdmmbnnejbmdpaaGreatDoor
open Go.RowKit Go.ChangeShapes Go.WideShapes Go.Deep
def rightB_rd (l : List Ox) : Bool := decide (l.length ≤ 19) && !(l.any wrongB)
theorem rightB_t {l : List Ox} (h : rightB_rd l = true) : l.length ≤ 19 ∧ ∀ o ∈ l, wrongB o = false := by
 simp only [rightB_rd, Bool.and_eq_true, decide_eq_true_eq, Bool.not_eq_true', List.any_eq_false] at h
 exact ⟨h.1, fun o ho => by simpa using h.2 o ho⟩
end Go.Proofs.YtdmmbnnejbmdpaaGreatDoor
end
section
set_option maxRecDepth 100000
namespace Go.Proofs.YtdmmbnnejbmdpaaGreatDoor
open Go.Lib Go.Shelf Go.RowKit
def F3 (w : World) (b : Nat) : Prop := w.frozen? ⟨b, 0, none⟩ = false ∧ w.frozen? ⟨b, 1, none⟩ = false ∧ w.frozen? ⟨b, 2, none⟩ = false
theorem F3.keep {W w1 : World} {b : Nat} (h : F3 W b) (hl : b < W.heap.size) (hb : Below W.heap.size W w1) : F3 w1 b :=
 ⟨by rw [(bcell hb).2 _ _ hl]; exact h.1, by rw [(bcell hb).2 _ _ hl]; exact h.2.1, by rw [(bcell hb).2 _ _ hl]; exact h.2.2⟩
theorem F3.new (w : World) (x y z : Value) (t : TypeId) : F3 (w.alloc (.cells #[x, y, z] t)) w.heap.size := by
 refine ⟨?_, ?_, ?_⟩ <;> simp [go_sem]
def nV (a t n : Int) : Value := .agg #[.int .i64 a, .int .i64 t, .int .u64 n]
def pV : Option (Nat × Nat × Nat) → Value
 | some (a, t, n) => nV a t n
 | none => nV 0 0 0
end Go.Proofs.YtdmmbnnejbmdpaaGreatDoor
end
