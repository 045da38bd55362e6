/-
  The laws of package chunk: ChunkLives.
-/
import Derived.Test.YtnhbpenejlocaaaDoorChunk11
set_option linter.unusedVariables false
namespace Go.Proofs.YtnhbpenejlocaaaDoor
open Go.RowKit

theorem run_right (c b : Int) (h : (c = 0 ∧ b < 256) ∨ (c = 1 ∧ b < 16) ∨ (c = 2 ∧ b < 4)) : rightB 1 c 0 0 b = true := right_yes (by unfold RightP; omega)
theorem word_or (c : Int) (b j : Nat) (c0 : 0 ≤ c) (c1 : c < 3) (hb : b < 256) (hj : j ≤ 7) : bits .or .u64 (wordI 1 c 0 0 b) (16777216 * pwI j) = wordI 1 c 0 0 ((b ||| 2 ^ j : Nat) : Int) := by
  obtain ⟨n, rfl⟩ := Int.eq_ofNat_of_zero_le c0
  have hp : 2 ^ j ≤ 128 := by
    have := Nat.pow_le_pow_right (by omega : 2 > 0) hj
    omega
  have e1 : wordI 1 n 0 0 b = ((2 ^ 24 * b + (1 + 8 * n) : Nat) : Int) := by unfold wordI; omega
  have e2 : (16777216 : Int) * pwI j = ((2 ^ 24 * 2 ^ j : Nat) : Int) := by unfold pwI; omega
  have e3 : wordI 1 n 0 0 ((b ||| 2 ^ j : Nat) : Int) = ((2 ^ 24 * (b ||| 2 ^ j) + (1 + 8 * n) : Nat) : Int) := by unfold wordI; omega
  have hl : b ||| 2 ^ j < 256 := Nat.or_lt_two_pow (n := 8) hb (by omega)
  rw [e1, e2, e3, u64_or_nat _ _ (by omega) (by omega)]
  congr 1
  apply Nat.eq_of_testBit_eq
  intro i
  rw [Nat.testBit_or, Nat.testBit_two_pow_mul_add _ (by omega), Nat.testBit_two_pow_mul_add _ (by omega), Nat.testBit_two_pow_mul]
  by_cases h : i < 24
  · simp [h]; omega
  · simp [h, Nat.testBit_or, show 24 ≤ i by omega]
theorem word_not (c : Int) (b j : Nat) (c0 : 0 ≤ c) (c1 : c < 3) (hb : b < 256) (hj : j ≤ 7) : bits .andNot .u64 (wordI 1 c 0 0 b) (16777216 * pwI j) = wordI 1 c 0 0 ((b &&& (18446744073709551615 - 2 ^ j) : Nat) : Int) := by
  obtain ⟨n, rfl⟩ := Int.eq_ofNat_of_zero_le c0
  have hp : 2 ^ j ≤ 128 := by
    have := Nat.pow_le_pow_right (by omega : 2 > 0) hj
    omega
  have e1 : wordI 1 n 0 0 b = ((2 ^ 24 * b + (1 + 8 * n) : Nat) : Int) := by unfold wordI; omega
  have e2 : (16777216 : Int) * pwI j = ((2 ^ 24 * 2 ^ j : Nat) : Int) := by unfold pwI; omega
  have hl : b &&& (18446744073709551615 - 2 ^ j) ≤ b := Nat.and_le_left
  have e3 : wordI 1 n 0 0 ((b &&& (18446744073709551615 - 2 ^ j) : Nat) : Int) = ((2 ^ 24 * (b &&& (18446744073709551615 - 2 ^ j)) + (1 + 8 * n) : Nat) : Int) := by unfold wordI; omega
  rw [e1, e2, e3, u64_andNot_nat _ _ (by omega) (by omega)]
  congr 1
  apply Nat.eq_of_testBit_eq
  intro i
  rw [Nat.testBit_and, Nat.testBit_two_pow_mul_add _ (by omega), Nat.testBit_two_pow_mul_add _ (by omega), show 18446744073709551615 - 2 ^ 24 * 2 ^ j = 2 ^ 64 - (2 ^ (24 + j) + 1) by rw [Nat.pow_add]; omega, Nat.testBit_two_pow_sub_succ (by rw [Nat.pow_add]; omega)]
  by_cases h : i < 24
  · simp only [h, if_true]
    by_cases hi : i < 64
    · simp [hi, show ¬ 24 + j = i by omega]
    · omega
  · simp only [h, if_false]
    rw [Nat.testBit_and, show 18446744073709551615 - 2 ^ j = 2 ^ 64 - (2 ^ j + 1) by omega, Nat.testBit_two_pow_sub_succ (by omega)]
    by_cases hbt : b.testBit (i - 24) = true
    · have : i - 24 < 8 := by
        refine Nat.lt_of_not_le fun hh => ?_
        have := Nat.testBit_lt_two_pow (Nat.lt_of_lt_of_le hb (show 256 ≤ 2 ^ (i - 24) from Nat.pow_le_pow_right (by omega : 2 > 0) hh))
        rw [this] at hbt; simp at hbt
      simp [hbt, Nat.testBit_two_pow, show i < 64 by omega, show i - 24 < 64 by omega]
      omega
    · simp [show b.testBit (i - 24) = false by simpa using hbt]
def livesB (c q j : Nat) : Bool := decide (0 ≤ roomI c (q &&& (18446744073709551615 - 2 ^ j)) ∧ roomI c (q &&& (18446744073709551615 - 2 ^ j)) ≤ j ∧ roomI c (q ||| 2 ^ j) ≠ j)
theorem lives_0 : ∀ q : Nat, q < 256 → ∀ j : Nat, j < 8 → livesB 0 q j = true := by decide +kernel
theorem lives_1 : ∀ q : Nat, q < 16 → ∀ j : Nat, j < 4 → livesB 1 q j = true := by decide +kernel
theorem lives_2 : ∀ q : Nat, q < 4 → ∀ j : Nat, j < 2 → livesB 2 q j = true := by decide +kernel

end Go.Proofs.YtnhbpenejlocaaaDoor