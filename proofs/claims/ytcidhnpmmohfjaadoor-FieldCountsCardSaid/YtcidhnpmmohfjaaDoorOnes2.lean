/-
  Plain arithmetic: the first one, how many there are, and a word's opposite.
-/
import Derived.Test.YtcidhnpmmohfjaaDoorOnes
set_option linter.unusedVariables false
namespace Go.Proofs.YtcidhnpmmohfjaaDoor

theorem ones_succ (x n : Nat) : onesL x (n + 1) = onesL x n ++ if x.testBit n then [n] else [] := by
  unfold onesL
  rw [List.range_succ, List.filter_append]
  cases h : x.testBit n <;> simp [h]
theorem ones_low (x n : Nat) (h : n ≤ 64) : onesL (x % 2 ^ n) 64 = onesL x n := by
  have hk : ∀ k, onesL (x % 2 ^ n) (n + k) = onesL x n := by
    intro k
    induction k with
    | zero =>
      unfold onesL
      apply List.filter_congr
      intro i hi
      rw [List.mem_range] at hi
      rw [Nat.testBit_mod_two_pow]; simp; intro _; omega
    | succ k ih =>
      rw [← Nat.add_assoc, ones_succ, ih, Nat.testBit_mod_two_pow, decide_eq_false (by omega)]
      simp
  have := hk (64 - n)
  rwa [show n + (64 - n) = 64 by omega] at this
theorem first_spec (x n : Nat) : (onesL x n = [] ∧ ∀ i, i < n → x.testBit i = false) ∨ (∃ t r, onesL x n = t :: r ∧ t < n ∧ x.testBit t = true ∧ ∀ i, i < t → x.testBit i = false) := by
  induction n with
  | zero => exact .inl ⟨rfl, fun i h => by omega⟩
  | succ n ih =>
    rw [ones_succ]
    rcases ih with ⟨e, h⟩ | ⟨t, r, e, ht, hb, h⟩
    · cases hn : x.testBit n
      · refine .inl ⟨by simp [e], fun i hi => ?_⟩
        by_cases hi2 : i = n
        · rw [hi2]; exact hn
        · exact h i (by omega)
      · exact .inr ⟨n, [], by simp [e], by omega, hn, h⟩
    · exact .inr ⟨t, r ++ _, by rw [e]; rfl, by omega, hb, h⟩
theorem len_le (x n : Nat) : (onesL x n).length ≤ n := by
  induction n with
  | zero => simp [onesL]
  | succ n ih => rw [ones_succ, List.length_append]; cases x.testBit n <;> simp <;> omega
theorem len_none (x n : Nat) (h : ∀ i, i < n → x.testBit i = false) : (onesL x n).length = 0 := by
  induction n with
  | zero => simp [onesL]
  | succ n ih => rw [ones_succ, h n (by omega), List.length_append, ih (fun i hi => h i (by omega))]; simp
theorem len_all (x n : Nat) (h : ∀ i, i < n → x.testBit i = true) : (onesL x n).length = n := by
  induction n with
  | zero => simp [onesL]
  | succ n ih => rw [ones_succ, h n (by omega), List.length_append, ih (fun i hi => h i (by omega))]; simp
theorem len_pos (x n t : Nat) (ht : t < n) (h : x.testBit t = true) : 0 < (onesL x n).length := by
  apply List.length_pos_of_mem (a := t)
  unfold onesL
  rw [List.mem_filter, List.mem_range]; exact ⟨ht, h⟩
theorem len_sum (x y n : Nat) (h : ∀ i, i < n → y.testBit i = !x.testBit i) : (onesL x n).length + (onesL y n).length = n := by
  induction n with
  | zero => simp [onesL]
  | succ n ih =>
    have := ih (fun i hi => h i (by omega))
    rw [ones_succ, ones_succ, h n (by omega), List.length_append, List.length_append]
    cases x.testBit n <;> simp <;> omega
theorem opp_testBit (x i : Nat) (hx : x < 18446744073709551616) (hi : i < 64) : (18446744073709551615 - x).testBit i = !x.testBit i := by
  rw [show 18446744073709551615 - x = 2 ^ 64 - (x + 1) by omega, Nat.testBit_two_pow_sub_succ (by omega)]
  simp [hi]
end Go.Proofs.YtcidhnpmmohfjaaDoor
