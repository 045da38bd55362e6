/-
  The laws of package seal: what differs within 32 bits has another check sum (arithmetic).
-/
import Derived.Test.YtkmfncnfpneekaaUSeal8
set_option linter.unusedVariables false
namespace Go.Proofs.Ytkmfncnfpneekaa

theorem turn_add (a b : Nat) : ∀ (r x : Nat), turnN (a + b) r x = turnN b (turnN a r x) (x / 2 ^ a) := by
  induction a with
  | zero => intro r x; simp [turnN]
  | succ a ih =>
    intro r x
    rw [show a + 1 + b = (a + b) + 1 by omega]
    show turnN (a + b) (stepN r x) (x / 2) = turnN b (turnN a (stepN r x) (x / 2)) (x / 2 ^ (a + 1))
    rw [ih, Nat.pow_succ, Nat.mul_comm, ← Nat.div_div_eq_div_mul]
theorem step_mod (r x y : Nat) (h : x % 2 = y % 2) : stepN r x = stepN r y := by
  unfold stepN
  rw [xor_mod2, xor_mod2, h]
theorem turn_mod (n : Nat) : ∀ (r x : Nat), turnN n r x = turnN n r (x % 2 ^ n) := by
  induction n with
  | zero => intro r x; rfl
  | succ n ih =>
    intro r x
    show turnN n (stepN r x) (x / 2) = turnN n (stepN r (x % 2 ^ (n + 1))) (x % 2 ^ (n + 1) / 2)
    have e1 : stepN r (x % 2 ^ (n + 1)) = stepN r x := step_mod _ _ _ (by
      rw [Nat.pow_succ, Nat.mul_comm, Nat.mod_mul_right_mod])
    have e2 : x % 2 ^ (n + 1) / 2 = (x / 2) % 2 ^ n := by
      rw [Nat.pow_succ, Nat.mul_comm, Nat.mod_mul_right_div_self]
    rw [e1, e2, ← ih]
theorem step_zero (r x : Nat) : stepN r x ^^^ (x / 2) = stepN (r ^^^ x) 0 := by
  unfold stepN
  rw [Nat.xor_zero, xor_div2]
  split
  · rw [Nat.xor_assoc, Nat.xor_comm 3988292384, ← Nat.xor_assoc]
  · rfl
theorem turn_zero (n : Nat) : ∀ (r x : Nat), turnN n r x ^^^ (x / 2 ^ n) = turnN n (r ^^^ x) 0 := by
  induction n with
  | zero => intro r x; simp [turnN]
  | succ n ih =>
    intro r x
    show turnN n (stepN r x) (x / 2) ^^^ (x / 2 ^ (n + 1)) = turnN n (stepN (r ^^^ x) 0) (0 / 2)
    rw [Nat.pow_succ, Nat.mul_comm, ← Nat.div_div_eq_div_mul, ih, step_zero]
theorem turn_00 (n : Nat) : turnN n 0 0 = 0 := by
  induction n with
  | zero => rfl
  | succ n ih => exact ih
/-- a burst is seen -/
theorem burst (p B : Nat) (hB : B < 4294967296) : turnN p 0 B = 0 ↔ B % 2 ^ p = 0 := by
  have h1 : turnN p 0 B = turnN p (B % 2 ^ p) 0 := by
    rw [turn_mod]
    have := turn_zero p 0 (B % 2 ^ p)
    rw [Nat.div_eq_of_lt (Nat.mod_lt _ (Nat.two_pow_pos p)), Nat.xor_zero, Nat.zero_xor] at this
    exact this
  rw [h1]
  have hl : B % 2 ^ p ≤ B := Nat.mod_le _ _
  constructor
  · intro h
    exact turn_inj p (B % 2 ^ p) 0 0 (by omega) (by omega) (by rw [h, turn_00])
  · intro h
    rw [h, turn_00]

/-- the words of a great number, n of them -/
def wordsOf (E n : Nat) : List Nat := (List.range n).map fun j => E / 2 ^ (64 * j) % 2 ^ 64
theorem fold_words (E : Nat) (r : Nat) : ∀ n, foldT r (wordsOf E n) = turnN (64 * n) r E := by
  intro n
  induction n with
  | zero => rfl
  | succ n ih =>
    have : wordsOf E (n + 1) = wordsOf E n ++ [E / 2 ^ (64 * n) % 2 ^ 64] := by simp [wordsOf, List.range_succ]
    rw [this, show 64 * (n + 1) = 64 * n + 64 by omega, turn_add, ← ih]
    unfold foldT
    rw [List.foldl_append]
    show turnN 64 _ _ = _
    rw [← turn_mod]
/-- l with the bits of b turned over from bit k on -/
def flipL (l : List Nat) (k b : Nat) : List Nat := (List.range l.length).map fun j => l.getD j 0 ^^^ (b * 2 ^ k / 2 ^ (64 * j) % 2 ^ 64)
theorem flip_len (l : List Nat) (k b : Nat) : (flipL l k b).length = l.length := by simp [flipL]
theorem flip_fold (l : List Nat) (k b : Nat) (r s : Nat) : ∀ n, n ≤ l.length → foldT (r ^^^ s) ((flipL l k b).take n) = foldT r (l.take n) ^^^ foldT s (wordsOf (b * 2 ^ k) n) := by
  intro n
  induction n with
  | zero => intro _; rfl
  | succ n ih =>
    intro h
    rw [foldT_step _ _ n (by rw [flip_len]; omega), foldT_step r l n (by omega), ih (by omega)]
    have e1 : (flipL l k b).getD n 0 = l.getD n 0 ^^^ (b * 2 ^ k / 2 ^ (64 * n) % 2 ^ 64) := by
      rw [List.getD_eq_getElem?_getD]
      simp [flipL, show n < l.length by omega]
    have e2 : foldT s (wordsOf (b * 2 ^ k) (n + 1)) = turnN 64 (foldT s (wordsOf (b * 2 ^ k) n)) (b * 2 ^ k / 2 ^ (64 * n) % 2 ^ 64) := by
      have : wordsOf (b * 2 ^ k) (n + 1) = wordsOf (b * 2 ^ k) n ++ [b * 2 ^ k / 2 ^ (64 * n) % 2 ^ 64] := by simp [wordsOf, List.range_succ]
      rw [this]; unfold foldT; rw [List.foldl_append]; rfl
    rw [e1, e2, turn_xor]
theorem flip_sum (l : List Nat) (k b : Nat) (hb : b < 4294967296) (hk : k < 64 * l.length) : moreN 0 (flipL l k b) = moreN 0 l ↔ b % 2 ^ (64 * l.length - k) = 0 := by
  have h := flip_fold l k b 4294967295 0 l.length (Nat.le_refl _)
  rw [Nat.xor_zero, List.take_of_length_le (by rw [flip_len]; omega), List.take_of_length_le (Nat.le_refl _), fold_words] at h
  have h2 : turnN (64 * l.length) 0 (b * 2 ^ k) = turnN (64 * l.length - k) 0 b := by
    rw [show 64 * l.length = k + (64 * l.length - k) by omega, turn_add, turn_mod k, Nat.mul_mod_left, turn_00, Nat.mul_div_cancel _ (Nat.two_pow_pos k), show k + (64 * l.length - k) - k = 64 * l.length - k by omega]
  rw [h2] at h
  rw [← burst _ _ hb]
  have l1 := foldT_lt (flipL l k b) 4294967295 (by omega)
  have l2 := foldT_lt l 4294967295 (by omega)
  unfold moreN
  rw [Nat.sub_zero]
  constructor
  · intro e
    have e3 : foldT 4294967295 (flipL l k b) = foldT 4294967295 l := by omega
    rw [e3] at h
    have := congrArg (foldT 4294967295 l ^^^ ·) h
    simp only [← Nat.xor_assoc, Nat.xor_self, Nat.zero_xor] at this
    exact this.symm
  · intro e
    rw [h, e, Nat.xor_zero]
/-- a bit of a list turned over in part -/
theorem word_bit (b k j t : Nat) (ht : t < 64) : (b * 2 ^ k / 2 ^ (64 * j) % 2 ^ 64).testBit t = (decide (k ≤ 64 * j + t) && b.testBit (64 * j + t - k)) := by
  rw [Nat.testBit_mod_two_pow, Nat.testBit_div_two_pow, Nat.mul_comm b, Nat.testBit_two_pow_mul, decide_eq_true ht, Bool.true_and, Nat.add_comm t]
theorem word_lt (b k j : Nat) : b * 2 ^ k / 2 ^ (64 * j) % 2 ^ 64 < 2 ^ 64 := Nat.mod_lt _ (by decide)
theorem flip_same (l : List Nat) (k b : Nat) (hk : k < 64 * l.length) : flipL l k b = l ↔ b % 2 ^ (64 * l.length - k) = 0 := by
  constructor
  · intro h
    apply Nat.eq_of_testBit_eq
    intro s
    rw [Nat.testBit_mod_two_pow, Nat.zero_testBit]
    by_cases hs : s < 64 * l.length - k
    · have hj : (k + s) / 64 < l.length := by omega
      have e := congrArg (·.getD ((k + s) / 64) 0) h
      simp only [List.getD_eq_getElem?_getD] at e
      rw [show (flipL l k b)[(k + s) / 64]? = some (l.getD ((k + s) / 64) 0 ^^^ (b * 2 ^ k / 2 ^ (64 * ((k + s) / 64)) % 2 ^ 64)) by simp [flipL, hj]] at e
      simp only [Option.getD_some, List.getD_eq_getElem?_getD] at e
      have e2 : b * 2 ^ k / 2 ^ (64 * ((k + s) / 64)) % 2 ^ 64 = 0 := by
        have := congrArg (l[(k + s) / 64]?.getD 0 ^^^ ·) e
        simpa [← Nat.xor_assoc, Nat.xor_self] using this
      have e3 := word_bit b k ((k + s) / 64) ((k + s) % 64) (by omega)
      rw [e2, Nat.zero_testBit, show 64 * ((k + s) / 64) + (k + s) % 64 = k + s by omega, decide_eq_true (by omega : k ≤ k + s), show k + s - k = s by omega] at e3
      rw [decide_eq_true hs, Bool.true_and]
      simpa using e3.symm
    · simp [hs]
  · intro h
    apply List.ext_getElem?
    intro j
    by_cases hj : j < l.length
    · have : b * 2 ^ k / 2 ^ (64 * j) % 2 ^ 64 = 0 := by
        apply Nat.eq_of_testBit_eq
        intro t
        rw [Nat.zero_testBit]
        by_cases ht : t < 64
        · rw [word_bit b k j t ht]
          by_cases hkt : k ≤ 64 * j + t
          · have h2 : (b % 2 ^ (64 * l.length - k)).testBit (64 * j + t - k) = false := by rw [h, Nat.zero_testBit]
            rw [Nat.testBit_mod_two_pow, decide_eq_true (by omega), Bool.true_and] at h2
            rw [h2, Bool.and_false]
          · simp [hkt]
        · exact Nat.testBit_lt_two_pow (Nat.lt_of_lt_of_le (word_lt b k j) (Nat.pow_le_pow_right (by omega) (by omega)))
      simp only [flipL, List.getElem?_map, List.getElem?_range hj, Option.map_some, this, Nat.xor_zero]
      rw [List.getD_eq_getElem?_getD, List.getElem?_eq_getElem hj]
      rfl
    · rw [List.getElem?_eq_none (by rw [flip_len]; omega), List.getElem?_eq_none (by omega)]
theorem word_step (by_ k i j : Nat) (h : by_.testBit i = true) : (by_ % 2 ^ (i + 1)) * 2 ^ k / 2 ^ (64 * j) % 2 ^ 64 = ((by_ % 2 ^ i) * 2 ^ k / 2 ^ (64 * j) % 2 ^ 64) ^^^ (if j = (k + i) / 64 then 2 ^ ((k + i) % 64) else 0) := by
  apply Nat.eq_of_testBit_eq
  intro t
  rw [Nat.testBit_xor]
  by_cases ht : t < 64
  · rw [word_bit _ k j t ht, word_bit _ k j t ht, Nat.testBit_mod_two_pow, Nat.testBit_mod_two_pow]
    by_cases hk : k ≤ 64 * j + t
    · by_cases hi : 64 * j + t - k = i
      · have hj : j = (k + i) / 64 := by omega
        have htm : (k + i) % 64 = t := by omega
        rw [if_pos hj, hi, h, htm, Nat.testBit_two_pow_self]
        simp [hk]
      · have hz : (if j = (k + i) / 64 then 2 ^ ((k + i) % 64) else 0 : Nat).testBit t = false := by
          split
          · rename_i hj
            rw [Nat.testBit_two_pow]
            simp
            omega
          · exact Nat.zero_testBit t
        rw [hz, Bool.xor_false, show decide (64 * j + t - k < i + 1) = decide (64 * j + t - k < i) by rw [decide_eq_decide]; omega]
    · have hz : (if j = (k + i) / 64 then 2 ^ ((k + i) % 64) else 0 : Nat).testBit t = false := by
        split
        · rename_i hj
          rw [Nat.testBit_two_pow]
          simp
          omega
        · exact Nat.zero_testBit t
      rw [hz]
      simp [hk]
  · have e1 := Nat.testBit_lt_two_pow (Nat.lt_of_lt_of_le (word_lt (by_ % 2 ^ (i + 1)) k j) (Nat.pow_le_pow_right (n := 2) (by omega) (show 64 ≤ t by omega)))
    have e2 := Nat.testBit_lt_two_pow (Nat.lt_of_lt_of_le (word_lt (by_ % 2 ^ i) k j) (Nat.pow_le_pow_right (n := 2) (by omega) (show 64 ≤ t by omega)))
    rw [e1, e2]
    split
    · rw [Nat.testBit_two_pow]; simp; omega
    · simp
theorem flip_at (l : List Nat) (k b j : Nat) (hj : j < l.length) : (flipL l k b).getD j 0 = l.getD j 0 ^^^ (b * 2 ^ k / 2 ^ (64 * j) % 2 ^ 64) := by
  rw [List.getD_eq_getElem?_getD]
  simp [flipL, hj]
theorem flip_step (l : List Nat) (by_ k i : Nat) (h : by_.testBit i = true) (hki : k + i < 64 * l.length) :
    flipL l k (by_ % 2 ^ (i + 1)) = (flipL l k (by_ % 2 ^ i)).set ((k + i) / 64) ((flipL l k (by_ % 2 ^ i)).getD ((k + i) / 64) 0 ^^^ 2 ^ ((k + i) % 64)) := by
  apply List.ext_getElem?
  intro j
  by_cases hj : j < l.length
  · rw [List.getElem?_set]
    have ha : ∀ b, (flipL l k b)[j]? = some (l.getD j 0 ^^^ (b * 2 ^ k / 2 ^ (64 * j) % 2 ^ 64)) := fun b => by simp [flipL, hj]
    rw [ha, word_step by_ k i j h]
    by_cases e : (k + i) / 64 = j
    · rw [if_pos e.symm, if_pos e, if_pos (by rw [flip_len]; omega), e, flip_at l k _ j hj, Nat.xor_assoc]
    · rw [if_neg e, ha, if_neg (fun h => e h.symm), Nat.xor_zero]
  · rw [List.getElem?_eq_none (by rw [flip_len]; omega), List.getElem?_eq_none (by rw [List.length_set, flip_len]; omega)]
theorem flip_skip (l : List Nat) (by_ k i : Nat) (h : by_.testBit i = false) : flipL l k (by_ % 2 ^ (i + 1)) = flipL l k (by_ % 2 ^ i) := by
  rw [mod_step, h]
  simp
theorem flip_WL {l : List Nat} (k b : Nat) (hl : WL l) : WL (flipL l k b) := fun x hx => by
  unfold flipL at hx
  obtain ⟨j, hj, rfl⟩ := List.mem_map.1 hx
  exact xor_lt64 (hl.at j (List.mem_range.1 hj)) (word_lt b k j)
end Go.Proofs.Ytkmfncnfpneekaa
