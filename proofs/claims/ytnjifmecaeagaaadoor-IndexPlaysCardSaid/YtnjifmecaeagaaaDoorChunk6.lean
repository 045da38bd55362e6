/-
  What the calls of package chunk answer: Bit; and the document's answers beside it: power, Bit, Empty.
-/
import Derived.Test.YtnjifmecaeagaaaDoorChunk4
set_option linter.unusedVariables false
namespace Go.Proofs.YtnjifmecaeagaaaDoor
open Go.RowKit

set_option maxHeartbeats 1000000 in
theorem bit_0 (w : World) (hw : Lw w) :
    Calls Tryd.prog 33 #[.int .i64 0] w fun e w' => e = .returned (.int .u64 16777216) ∧ Below w.heap.size w w' := by
  obtain ⟨_, _, _, _, p0, p1, p2, p3, ⟨p40, p41⟩⟩ := hw
  go_enter Tryd.func33, Tryd.ntmps33
  go_wp2_with fail
  refine (of_bits 1 _ (by decide) (by decide)).mono ?_
  rintro e w1 ⟨rfl, hb⟩
  go_wp2_with fail
  go_ret
  exact ⟨ret_i (by decide), hb⟩

set_option maxHeartbeats 1000000 in
theorem bit_1 (w : World) (hw : Lw w) :
    Calls Tryd.prog 33 #[.int .i64 1] w fun e w' => e = .returned (.int .u64 33554432) ∧ Below w.heap.size w w' := by
  obtain ⟨_, _, _, _, p0, p1, p2, p3, ⟨p40, p41⟩⟩ := hw
  go_enter Tryd.func33, Tryd.ntmps33
  go_wp2_with fail
  refine (of_bits 2 _ (by decide) (by decide)).mono ?_
  rintro e w1 ⟨rfl, hb⟩
  go_wp2_with fail
  go_ret
  exact ⟨ret_i (by decide), hb⟩

set_option maxHeartbeats 1000000 in
theorem bit_2 (w : World) (hw : Lw w) :
    Calls Tryd.prog 33 #[.int .i64 2] w fun e w' => e = .returned (.int .u64 67108864) ∧ Below w.heap.size w w' := by
  obtain ⟨_, _, _, _, p0, p1, p2, p3, ⟨p40, p41⟩⟩ := hw
  go_enter Tryd.func33, Tryd.ntmps33
  go_wp2_with fail
  refine (of_bits 4 _ (by decide) (by decide)).mono ?_
  rintro e w1 ⟨rfl, hb⟩
  go_wp2_with fail
  go_ret
  exact ⟨ret_i (by decide), hb⟩

set_option maxHeartbeats 1000000 in
theorem bit_3 (w : World) (hw : Lw w) :
    Calls Tryd.prog 33 #[.int .i64 3] w fun e w' => e = .returned (.int .u64 134217728) ∧ Below w.heap.size w w' := by
  obtain ⟨_, _, _, _, p0, p1, p2, p3, ⟨p40, p41⟩⟩ := hw
  go_enter Tryd.func33, Tryd.ntmps33
  go_wp2_with fail
  refine (of_bits 8 _ (by decide) (by decide)).mono ?_
  rintro e w1 ⟨rfl, hb⟩
  go_wp2_with fail
  go_ret
  exact ⟨ret_i (by decide), hb⟩

set_option maxHeartbeats 1000000 in
theorem bit_4 (w : World) (hw : Lw w) :
    Calls Tryd.prog 33 #[.int .i64 4] w fun e w' => e = .returned (.int .u64 268435456) ∧ Below w.heap.size w w' := by
  obtain ⟨_, _, _, _, p0, p1, p2, p3, ⟨p40, p41⟩⟩ := hw
  go_enter Tryd.func33, Tryd.ntmps33
  go_wp2_with fail
  refine (of_bits 16 _ (by decide) (by decide)).mono ?_
  rintro e w1 ⟨rfl, hb⟩
  go_wp2_with fail
  go_ret
  exact ⟨ret_i (by decide), hb⟩

set_option maxHeartbeats 1000000 in
theorem bit_5 (w : World) (hw : Lw w) :
    Calls Tryd.prog 33 #[.int .i64 5] w fun e w' => e = .returned (.int .u64 536870912) ∧ Below w.heap.size w w' := by
  obtain ⟨_, _, _, _, p0, p1, p2, p3, ⟨p40, p41⟩⟩ := hw
  go_enter Tryd.func33, Tryd.ntmps33
  go_wp2_with fail
  refine (of_bits 32 _ (by decide) (by decide)).mono ?_
  rintro e w1 ⟨rfl, hb⟩
  go_wp2_with fail
  go_ret
  exact ⟨ret_i (by decide), hb⟩

set_option maxHeartbeats 1000000 in
theorem bit_6 (w : World) (hw : Lw w) :
    Calls Tryd.prog 33 #[.int .i64 6] w fun e w' => e = .returned (.int .u64 1073741824) ∧ Below w.heap.size w w' := by
  obtain ⟨_, _, _, _, p0, p1, p2, p3, ⟨p40, p41⟩⟩ := hw
  go_enter Tryd.func33, Tryd.ntmps33
  go_wp2_with fail
  refine (of_bits 64 _ (by decide) (by decide)).mono ?_
  rintro e w1 ⟨rfl, hb⟩
  go_wp2_with fail
  go_ret
  exact ⟨ret_i (by decide), hb⟩

set_option maxHeartbeats 1000000 in
theorem bit_7 (w : World) (hw : Lw w) :
    Calls Tryd.prog 33 #[.int .i64 7] w fun e w' => e = .returned (.int .u64 2147483648) ∧ Below w.heap.size w w' := by
  obtain ⟨_, _, _, _, p0, p1, p2, p3, ⟨p40, p41⟩⟩ := hw
  go_enter Tryd.func33, Tryd.ntmps33
  go_wp2_with fail
  refine (of_bits 128 _ (by decide) (by decide)).mono ?_
  rintro e w1 ⟨rfl, hb⟩
  go_wp2_with fail
  go_ret
  exact ⟨ret_i (by decide), hb⟩

def pwI (i : Nat) : Int := ((2 ^ i : Nat) : Int)
set_option maxHeartbeats 400000 in
theorem refPower10 (i : Nat) (w : World) (hi : i < 64) : Calls Tryd.prog 92 #[.int .i64 i] w fun e w' => e = .returned (.int .u64 (pwI i)) ∧ w = w' := by
  go_enter Tryd.func92, Tryd.ntmps92
  go_wp2
  go_loop [3, 4] (fun v k => ∃ j : Nat, j ≤ i ∧ k = .int .i64 j ∧ v = .int .u64 ((2 ^ j : Nat) : Int)) (fun _ k => 65 - (intOf k).toNat)
  case atStart => exact ⟨0, by omega, rfl, by simp⟩
  case round =>
    obtain ⟨j, hj, rfl, rfl⟩ := hrel
    have hp := pow_lt64 (k := j) (by omega)
    have hps : 2 * 2 ^ j = 2 ^ (j + 1) := by rw [Nat.pow_succ, Nat.mul_comm]
    by_cases hlt : (j : Int) < i
    · have hp2 := pow_lt64 (k := j + 1) (by omega)
      rw [← hps] at hp2
      generalize hy : 2 ^ j = y at *
      have HD := Lib.hid hps
      clear hps hy
      go_wp2
      go_round
      case rel => exact ⟨j + 1, by omega, by go_num, by rw [← HD.out]; go_num⟩
      case measure => simp [intOf]; omega
    · obtain rfl : j = i := by omega
      clear hps hp
      have HP : Hid (pwI j = ((2 ^ j : Nat) : Int)) := rfl
      generalize 2 ^ j = y at *
      go_wp2
      go_ret
      exact ⟨by rw [HP.out]; rfl, rfl⟩

end Go.Proofs.YtnjifmecaeagaaaDoor