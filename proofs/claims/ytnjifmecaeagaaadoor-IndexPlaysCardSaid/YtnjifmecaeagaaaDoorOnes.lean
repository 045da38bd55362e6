/-
  Plain arithmetic: the ones of a word, the lowest first.
-/
import Derived.Laws.BitsAllLaws
namespace Go.Proofs.YtnjifmecaeagaaaDoor

def onesL (r n : Nat) : List Nat := (List.range n).filter r.testBit

theorem low_bit : ∀ (r : Nat), 0 < r → ∃ t m, r = 2 ^ t * (2 * m + 1) := by
  intro r
  induction r using Nat.strongRecOn with
  | _ r ih =>
    intro h
    by_cases ho : r % 2 = 1
    · exact ⟨0, r / 2, by omega⟩
    · obtain ⟨t, m, e⟩ := ih (r / 2) (by omega) (by omega)
      refine ⟨t + 1, m, ?_⟩
      rw [Nat.pow_succ, Nat.mul_comm (2 ^ t) 2, Nat.mul_assoc, ← e]; omega

theorem odd_testBit (m j : Nat) : (2 * m + 1).testBit j = if j = 0 then true else m.testBit (j - 1) := by
  cases j with
  | zero => simp
  | succ k => rw [Nat.testBit_succ, show (2 * m + 1) / 2 = m by omega]; simp
theorem even_testBit (m j : Nat) : (2 * m).testBit j = if j = 0 then false else m.testBit (j - 1) := by
  cases j with
  | zero => simp
  | succ k => rw [Nat.testBit_succ, show (2 * m) / 2 = m by omega]; simp
theorem low_testBit (t m j : Nat) : (2 ^ t * (2 * m + 1)).testBit j = if j < t then false else if j = t then true else m.testBit (j - t - 1) := by
  rw [Nat.testBit_two_pow_mul, odd_testBit]
  by_cases h : j < t
  · simp [h]; omega
  · rw [if_neg h]
    by_cases e : j = t
    · simp [e]
    · rw [if_neg e, if_neg (by omega)]; simp; omega
theorem pred_testBit (t m j : Nat) : (2 ^ t * (2 * m + 1) - 1).testBit j = if j < t then true else if j = t then false else m.testBit (j - t - 1) := by
  have hp := Nat.pow_pos (n := t) (a := 2) (by omega)
  rw [show 2 ^ t * (2 * m + 1) - 1 = 2 ^ t * (2 * m) + (2 ^ t - 1) by rw [Nat.mul_add, Nat.mul_one]; omega, Nat.testBit_two_pow_mul_add _ (by omega), even_testBit, Nat.testBit_two_pow_sub_one]
  by_cases h : j < t
  · simp [h]
  · rw [if_neg h, if_neg h]
    by_cases e : j = t
    · simp [e]
    · rw [if_neg (by omega), if_neg e]

theorem clear_testBit (t m j : Nat) : ((2 ^ t * (2 * m + 1)) &&& (2 ^ t * (2 * m + 1) - 1)).testBit j = ((2 ^ t * (2 * m + 1)).testBit j && decide (j ≠ t)) := by
  rw [Nat.testBit_and, pred_testBit, low_testBit]
  by_cases h : j < t
  · simp [h]
  · by_cases e : j = t
    · simp [e]
    · simp [h, e]

theorem neg_and (t m : Nat) (h : 2 ^ t * (2 * m + 1) < 2 ^ 64) : (2 ^ t * (2 * m + 1)) &&& (2 ^ 64 - 2 ^ t * (2 * m + 1)) = 2 ^ t := by
  have hp := Nat.pow_pos (n := t) (a := 2) (by omega)
  have h0 : 0 < 2 ^ t * (2 * m + 1) := Nat.mul_pos hp (by omega)
  apply Nat.eq_of_testBit_eq
  intro j
  have e : 2 ^ 64 - 2 ^ t * (2 * m + 1) = 2 ^ 64 - ((2 ^ t * (2 * m + 1) - 1) + 1) := by omega
  rw [Nat.testBit_and, e, Nat.testBit_two_pow_sub_succ (by omega), pred_testBit, low_testBit, Nat.testBit_two_pow]
  have ht : t < 64 := by
    refine (Nat.pow_lt_pow_iff_right (a := 2) (by omega)).1 (Nat.lt_of_le_of_lt ?_ h)
    exact Nat.le_mul_of_pos_right _ (by omega)
  by_cases h1 : j < t
  · simp [h1]; omega
  · by_cases e1 : j = t
    · simp [e1, ht]
    · simp only [h1, e1, if_false]
      cases m.testBit (j - t - 1) <;> simp <;> omega

theorem tz_lt (t m : Nat) (h : 2 ^ t * (2 * m + 1) < 2 ^ 64) : t < 64 := by
  refine (Nat.pow_lt_pow_iff_right (a := 2) (by omega)).1 (Nat.lt_of_le_of_lt ?_ h)
  exact Nat.le_mul_of_pos_right _ (by omega)

/-- The ones of a word: the lowest one, and those of the word without it. -/
theorem ones_step (t m n : Nat) (ht : t < n) : onesL (2 ^ t * (2 * m + 1)) n = t :: onesL ((2 ^ t * (2 * m + 1)) &&& (2 ^ t * (2 * m + 1) - 1)) n := by
  unfold onesL
  obtain ⟨k, rfl⟩ : ∃ k, n = t + 1 + k := ⟨n - t - 1, by omega⟩
  have hr : List.range (t + 1 + k) = List.range t ++ (t :: (List.range k).map (t + 1 + ·)) := by
    rw [List.range_add, List.range_succ, List.append_assoc]; rfl
  rw [hr, List.filter_append, List.filter_append]
  have e1 : (List.range t).filter (2 ^ t * (2 * m + 1)).testBit = [] := by
    rw [List.filter_eq_nil_iff]; intro i hi; rw [low_testBit]; simp at hi; simp [hi]
  have e2 : (List.range t).filter ((2 ^ t * (2 * m + 1)) &&& (2 ^ t * (2 * m + 1) - 1)).testBit = [] := by
    rw [List.filter_eq_nil_iff]; intro i hi; rw [clear_testBit, low_testBit]; simp at hi; simp [hi]
  rw [e1, e2, List.nil_append, List.nil_append, List.filter_cons, List.filter_cons, clear_testBit, low_testBit]
  simp only [Nat.lt_irrefl, if_false, if_true, ne_eq, not_true_eq_false, decide_false, Bool.and_false]
  congr 1
  apply List.filter_congr
  intro i hi
  rw [List.mem_map] at hi
  obtain ⟨q, _, rfl⟩ := hi
  rw [clear_testBit]
  simp
  intro _; omega
theorem ones_zero (n : Nat) : onesL 0 n = [] := by
  unfold onesL; rw [List.filter_eq_nil_iff]; intro i _; simp
theorem ones_lt {r n x : Nat} (h : x ∈ onesL r n) : x < n ∧ r.testBit x = true := by
  unfold onesL at h; rw [List.mem_filter, List.mem_range] at h; exact h

def debTab : List Nat := [0, 1, 56, 2, 57, 49, 28, 3, 61, 58, 42, 50, 38, 29, 17, 4, 62, 47, 59, 36, 45, 43, 51, 22, 53, 39, 33, 30, 24, 18, 12, 5, 63, 55, 48, 27, 60, 41, 37, 16, 46, 35, 44, 21, 52, 32, 23, 11, 54, 26, 40, 15, 34, 20, 31, 10, 25, 14, 19, 9, 13, 8, 7, 6]
theorem deb_all : ∀ t : Fin 64, debTab.getD (2 ^ t.val * 285870213051353865 % 18446744073709551616 / 288230376151711744) 0 = t.val := by decide +kernel
end Go.Proofs.YtnjifmecaeagaaaDoor
