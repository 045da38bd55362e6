/-
  Part of the proof of MendLanes.
-/
import Derived.Test.YtkdhdibjbabgfaaGreatDoorVl7
import Derived.RangeFuncBound
import Derived.RangeFuncBox
import Derived.RangeFuncCalls
import Derived.RangeFuncFrom
import Derived.RangeFuncLeaves
import Derived.RangeFuncNested
import Derived.RangeFuncWrites
import Derived.Laws.EntriesVeiled
import Derived.Test.YtkdhdibjbabgfaaGreatDoorVl0
set_option maxRecDepth 10000
set_option maxHeartbeats 400000
set_option linter.unusedVariables false
set_option linter.unusedSimpArgs false
section
namespace Go.Proofs.YtkdhdibjbabgfaaGreatDoor
open Go.RowKit Go.ChangeShapes Go.WideShapes Go.Deep
theorem KL.one (w : World) (a : Nat) (t : TypeId) : KL .u64 (w.alloc (.cells #[.int .u64 (a : Nat)] t)) (.slice (some ⟨w.heap.size, 0, none⟩) 1 1) [a] := by
 refine ⟨_, _, rfl, fun _ => ⟨_, 0, rfl, by simp, Nat.le_refl _, fun i hi => ?_⟩⟩
 simp only [List.length_singleton] at hi
 obtain rfl : i = 0 := by omega
 exact (row_cell (World.alloc_heap_new w _) 0).1
theorem firstW_lt (g a m : Nat) (ha : a < 1048576) (hm : m < 65536) : firstW g a m < 18446744073709551616 := by
 unfold firstW
 have : g % 65536 < 65536 := Nat.mod_lt _ (by decide)
 generalize g % 65536 = k at *
 omega
end Go.Proofs.YtkdhdibjbabgfaaGreatDoor
end
section
namespace Go.Proofs.YtkdhdibjbabgfaaGreatDoor
open Go.RowKit Go.ChangeShapes Go.WideShapes Go.Deep
def doN (x : Nat) (o : Ox) : Nat := if o.1 = 0 then o.2.2 else if o.1 = 1 then x ||| o.2.2 else if o.1 = 2 then x &&& o.2.2 else x
theorem doN_lt {x : Nat} {o : Ox} (hx : x < 18446744073709551616) (ho : o.2.2 < 18446744073709551616) : doN x o < 18446744073709551616 := by
 unfold doN
 split
 ·exact ho
 split
 ·exact Nat.or_lt_two_pow (n := 64) hx ho
 split
 ·exact Nat.lt_of_le_of_lt Nat.and_le_left hx
 ·exact hx
theorem op_set (x v : Nat) (k a : Int) (w : World) (hx : x < 18446744073709551616) (hv : v < 18446744073709551616) : Calls Tryz.prog 110 #[.agg #[.int .i64 k, .int .i64 a, .int .u64 (v : Nat)], .int .u64 (x : Nat)] w fun e w' => e = .returned (.int .u64 (v : Nat)) ∧ Below w.heap.size w w' := by
 have hB : Below w.heap.size w (w.alloc (.cells #[.int .i64 k, .int .i64 a, .int .u64 (v : Nat)] (137 : Nat))) := bZ _ _
 obtain ⟨c0, c1, c2⟩ := C3.new w (.int .i64 k) (.int .i64 a) (.int .u64 (v : Nat)) (137 : Nat)
 go_enter Tryz.func110, Tryz.ntmps110
 go_wp2_with fail
 go_ret
 exact ⟨rfl, hB⟩
theorem op_or (x v : Nat) (k a : Int) (w : World) (hx : x < 18446744073709551616) (hv : v < 18446744073709551616) : Calls Tryz.prog 111 #[.agg #[.int .i64 k, .int .i64 a, .int .u64 (v : Nat)], .int .u64 (x : Nat)] w fun e w' => e = .returned (.int .u64 (x ||| v : Nat)) ∧ Below w.heap.size w w' := by
 have e : bits .or .u64 (x : Int) (v : Int) = ((x ||| v : Nat) : Int) := u64_or_nat x v (by omega) (by omega)
 replace e := lh e
 have hB : Below w.heap.size w (w.alloc (.cells #[.int .i64 k, .int .i64 a, .int .u64 (v : Nat)] (137 : Nat))) := bZ _ _
 obtain ⟨c0, c1, c2⟩ := C3.new w (.int .i64 k) (.int .i64 a) (.int .u64 (v : Nat)) (137 : Nat)
 go_enter Tryz.func111, Tryz.ntmps111
 go_wp2_with fail
 go_ret
 exact ⟨by rw [← e.out]; rfl, hB⟩
theorem op_and (x v : Nat) (k a : Int) (w : World) (hx : x < 18446744073709551616) (hv : v < 18446744073709551616) : Calls Tryz.prog 112 #[.agg #[.int .i64 k, .int .i64 a, .int .u64 (v : Nat)], .int .u64 (x : Nat)] w fun e w' => e = .returned (.int .u64 (x &&& v : Nat)) ∧ Below w.heap.size w w' := by
 have e : bits .and .u64 (x : Int) (v : Int) = ((x &&& v : Nat) : Int) := u64_and_nat x v (by omega) (by omega)
 replace e := lh e
 have hB : Below w.heap.size w (w.alloc (.cells #[.int .i64 k, .int .i64 a, .int .u64 (v : Nat)] (137 : Nat))) := bZ _ _
 obtain ⟨c0, c1, c2⟩ := C3.new w (.int .i64 k) (.int .i64 a) (.int .u64 (v : Nat)) (137 : Nat)
 go_enter Tryz.func112, Tryz.ntmps112
 go_wp2_with fail
 go_ret
 exact ⟨by rw [← e.out]; rfl, hB⟩
theorem do_easy (x : Nat) (o : Ox) (w : World) (hx : x < 18446744073709551616) (h : o.1 < 0 ∨ 3 ≤ o.1) : Calls Tryz.prog 83 #[.int .u64 (x : Nat), opV o] w fun e w' => e = .returned (.int .u64 (x : Nat)) ∧ Below w.heap.size w w' := by
 obtain ⟨k, a, v⟩ := o
 unfold opV
 simp only [] at *
 have hB : Below w.heap.size w (w.alloc (.cells #[.int .i64 k, .int .i64 a, .int .u64 (v : Nat)] (53 : Nat))) := bZ _ _
 rcases h with h | h
 ·go_enter Tryz.func83, Tryz.ntmps83
  go_wp2_with fail
  go_ret
  exact ⟨rfl, hB.alloc hB.size _⟩
 ·have h' : ¬ k < 0 := by omega
  go_enter Tryz.func83, Tryz.ntmps83
  go_wp2_with fail
  go_ret
  exact ⟨rfl, hB.alloc hB.size _⟩
end Go.Proofs.YtkdhdibjbabgfaaGreatDoor
end
