/-
  Plain arithmetic: what is put is got; numbers that lie apart don't meet.
-/
import Derived.Test.YtkmfncnfpneekaaBits
import Derived.Test.YtkmfncnfpneekaaOnes
set_option linter.unusedVariables false
namespace Go.Proofs.Ytkmfncnfpneekaa

theorem get_put (w a m v : Nat) : getN (putN w a m v) a m = v % 2 ^ m := by
  apply Nat.eq_of_testBit_eq; intro i
  rw [getN_testBit, putN_testBit, Nat.testBit_mod_two_pow]
  by_cases h : i < m
  · rw [if_pos (by omega)]; simp [h]
  · simp [h]
theorem put_back (w a m v : Nat) : putN (putN w a m v) a m (getN w a m) = w := by
  apply Nat.eq_of_testBit_eq; intro i
  rw [putN_testBit, putN_testBit, getN_testBit]
  by_cases h : a ≤ i ∧ i < a + m
  · rw [if_pos h, show a + (i - a) = i by omega, decide_eq_true (by omega)]; rfl
  · rw [if_neg h, if_neg h]
theorem put_put (w a m v : Nat) : putN (putN w a m v) a m v = putN w a m v := by
  apply Nat.eq_of_testBit_eq; intro i
  rw [putN_testBit, putN_testBit]
  by_cases h : a ≤ i ∧ i < a + m
  · rw [if_pos h, if_pos h]
  · rw [if_neg h, if_neg h]
theorem put_comm (w a n v b m u : Nat) (h : a + n ≤ b) : putN (putN w a n v) b m u = putN (putN w b m u) a n v := by
  apply Nat.eq_of_testBit_eq; intro i
  rw [putN_testBit, putN_testBit, putN_testBit, putN_testBit]
  by_cases h1 : a ≤ i ∧ i < a + n
  · rw [if_neg (by omega), if_pos h1, if_pos h1]
  · by_cases h2 : b ≤ i ∧ i < b + m
    · rw [if_pos h2, if_neg h1, if_pos h2]
    · rw [if_neg h2, if_neg h1, if_neg h1, if_neg h2]
theorem get_other (w a n b m u : Nat) (h : a + n ≤ b) : getN (putN w b m u) a n = getN w a n := by
  apply Nat.eq_of_testBit_eq; intro i
  rw [getN_testBit, getN_testBit, putN_testBit]
  by_cases h1 : i < n
  · rw [if_neg (by omega)]
  · simp [h1]
theorem get_low (v n : Nat) : getN v 0 n = v % 2 ^ n := by unfold getN; simp

/-- the lowest n bits by one bit more -/
theorem mod_step (x n : Nat) : x % 2 ^ (n + 1) = x % 2 ^ n + if x.testBit n then 2 ^ n else 0 := by
  rw [Nat.pow_succ, Nat.mod_mul, Nat.testBit_eq_decide_div_mod_eq]
  rcases Nat.mod_two_eq_zero_or_one (x / 2 ^ n) with h | h <;> simp [h]
end Go.Proofs.Ytkmfncnfpneekaa
