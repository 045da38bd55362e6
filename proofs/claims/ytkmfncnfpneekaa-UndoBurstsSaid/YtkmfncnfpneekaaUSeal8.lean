/-
  The laws of package seal: SealSums.
-/
import Derived.Test.YtkmfncnfpneekaaUSeal6
import Derived.Test.YtkmfncnfpneekaaRegX
set_option linter.unusedVariables false
namespace Go.Proofs.Ytkmfncnfpneekaa
open Go.RowKit

theorem xor_mod2 (a b : Nat) : (a ^^^ b) % 2 = (a % 2 + b % 2) % 2 := by
  rw [show (a ^^^ b) % 2 = (a % 2 ^^^ b % 2) from Nat.xor_mod_two_pow (n := 1)]
  have h1 : a % 2 = 0 ∨ a % 2 = 1 := by omega
  have h2 : b % 2 = 0 ∨ b % 2 = 1 := by omega
  rcases h1 with h1 | h1 <;> rcases h2 with h2 | h2 <;> rw [h1, h2] <;> decide
theorem xor_div2 (a b : Nat) : (a ^^^ b) / 2 = a / 2 ^^^ b / 2 := by
  have := Nat.xor_div_two_pow (a := a) (b := b) (n := 1)
  simpa using this
theorem step_xor (r s x y : Nat) : stepN (r ^^^ s) (x ^^^ y) = stepN r x ^^^ stepN s y := by
  have hp : ((r ^^^ s) ^^^ (x ^^^ y)) % 2 = ((r ^^^ x) % 2 + (s ^^^ y) % 2) % 2 := by
    rw [show (r ^^^ s) ^^^ (x ^^^ y) = (r ^^^ x) ^^^ (s ^^^ y) by ac_rfl, xor_mod2]
  unfold stepN
  rw [hp, xor_div2]
  by_cases h1 : (r ^^^ x) % 2 = 1
  · by_cases h2 : (s ^^^ y) % 2 = 1
    · rw [if_neg (by omega), if_pos h1, if_pos h2]
      rw [show r / 2 ^^^ 3988292384 ^^^ (s / 2 ^^^ 3988292384) = (r / 2 ^^^ s / 2) ^^^ (3988292384 ^^^ 3988292384) by ac_rfl, Nat.xor_self, Nat.xor_zero]
    · rw [if_pos (by omega), if_pos h1, if_neg h2]; ac_rfl
  · by_cases h2 : (s ^^^ y) % 2 = 1
    · rw [if_pos (by omega), if_neg h1, if_pos h2]; ac_rfl
    · rw [if_neg (by omega), if_neg h1, if_neg h2]
theorem turn_xor (n : Nat) : ∀ (r s x y : Nat), turnN n (r ^^^ s) (x ^^^ y) = turnN n r x ^^^ turnN n s y := by
  induction n with
  | zero => intro r s x y; rfl
  | succ n ih =>
    intro r s x y
    show turnN n (stepN (r ^^^ s) (x ^^^ y)) ((x ^^^ y) / 2) = _
    rw [step_xor, xor_div2, ih]
    rfl
def xor3 (a b c : List Nat) (k : Nat) : List Nat := (List.range k).map fun i => a.getD i 0 ^^^ b.getD i 0 ^^^ c.getD i 0
theorem xor3_len (a b c : List Nat) (k : Nat) : (xor3 a b c k).length = k := by simp [xor3]
theorem xor3_succ (a b c : List Nat) (k : Nat) : xor3 a b c (k + 1) = xor3 a b c k ++ [a.getD k 0 ^^^ b.getD k 0 ^^^ c.getD k 0] := by simp [xor3, List.range_succ]
theorem fold_xor3 (a b c : List Nat) (r s t : Nat) : ∀ k, k ≤ a.length → k ≤ b.length → k ≤ c.length →
    foldT (r ^^^ s ^^^ t) (xor3 a b c k) = foldT r (a.take k) ^^^ foldT s (b.take k) ^^^ foldT t (c.take k) := by
  intro k
  induction k with
  | zero => intro _ _ _; rfl
  | succ k ih =>
    intro ha hb hc
    rw [xor3_succ, foldT_step r a k (by omega), foldT_step s b k (by omega), foldT_step t c k (by omega)]
    have : foldT (r ^^^ s ^^^ t) (xor3 a b c k ++ [a.getD k 0 ^^^ b.getD k 0 ^^^ c.getD k 0]) = turnN 64 (foldT (r ^^^ s ^^^ t) (xor3 a b c k)) (a.getD k 0 ^^^ b.getD k 0 ^^^ c.getD k 0) := by
      unfold foldT; rw [List.foldl_append]; rfl
    rw [this, ih (by omega) (by omega) (by omega), turn_xor, turn_xor]
theorem not_nat (s : Nat) (hs : s < 4294967296) : 4294967295 ^^^ s = 4294967295 - s := by
  apply Nat.eq_of_testBit_eq
  intro i
  rw [Nat.testBit_xor, show 4294967295 - s = 2 ^ 32 - (s + 1) by omega, Nat.testBit_two_pow_sub_succ (by omega), show (4294967295 : Nat) = 2 ^ 32 - 1 by decide, Nat.testBit_two_pow_sub_one]
  by_cases h : i < 32
  · simp [h]
  · have := Nat.testBit_lt_two_pow (Nat.lt_of_lt_of_le hs (show 4294967296 ≤ 2 ^ i from Nat.pow_le_pow_right (n := 2) (by omega) (show 32 ≤ i by omega)))
    simp [h, this]
theorem more_xor3 (a b c : List Nat) (n : Nat) (ha : a.length = n) (hb : b.length = n) (hc : c.length = n) : moreN 0 (xor3 a b c n) = moreN 0 a ^^^ moreN 0 b ^^^ moreN 0 c := by
  have h := fold_xor3 a b c 4294967295 4294967295 4294967295 n (by omega) (by omega) (by omega)
  rw [show 4294967295 ^^^ 4294967295 ^^^ 4294967295 = 4294967295 by decide, List.take_of_length_le (by omega), List.take_of_length_le (by omega), List.take_of_length_le (by omega)] at h
  have l1 := foldT_lt (xor3 a b c n) 4294967295 (by omega)
  have l2 := foldT_lt a 4294967295 (by omega)
  have l3 := foldT_lt b 4294967295 (by omega)
  have l4 := foldT_lt c 4294967295 (by omega)
  unfold moreN
  rw [Nat.sub_zero, ← not_nat _ l1, ← not_nat _ l2, ← not_nat _ l3, ← not_nat _ l4, h]
  generalize foldT 4294967295 a = A
  generalize foldT 4294967295 b = B
  generalize foldT 4294967295 c = C
  rw [show 4294967295 ^^^ A ^^^ (4294967295 ^^^ B) ^^^ (4294967295 ^^^ C) = (4294967295 ^^^ 4294967295) ^^^ (4294967295 ^^^ (A ^^^ B ^^^ C)) by ac_rfl, Nat.xor_self, Nat.zero_xor]
theorem xor_lt64 {a b : Nat} (ha : a < 18446744073709551616) (hb : b < 18446744073709551616) : a ^^^ b < 18446744073709551616 := Nat.xor_lt_two_pow (n := 64) ha hb
theorem xor3_WL {a b c : List Nat} {n : Nat} (ha : WL a) (hb : WL b) (hc : WL c) (h1 : n ≤ a.length) (h2 : n ≤ b.length) (h3 : n ≤ c.length) : WL (xor3 a b c n) := fun x hx => by
  unfold xor3 at hx
  obtain ⟨i, hi, rfl⟩ := List.mem_map.1 hx
  have hi' := List.mem_range.1 hi
  exact xor_lt64 (xor_lt64 (ha.at i (by omega)) (hb.at i (by omega))) (hc.at i (by omega))
theorem own_ge {w : World} {base e n : Nat} {v : Value} {xs : List Value} (h : w.ownsRow base e 1 v n xs) : ∀ k, v.ownBlock = some k → base ≤ k := by
  intro k hk
  rcases h.2 with ⟨hv, _⟩ | ⟨g, cap, cur, hv, hb, hg, _⟩
  · subst hv; simp [Value.ownBlock] at hk
  · subst hv; simp [Value.ownBlock] at hk; omega
theorem wv_succ (l : List Nat) (x : Nat) : wv (l ++ [x]) = wv l ++ [.int .u64 (x : Int)] := by simp [wv]
theorem SL.of_owns {w : World} {base e : Nat} {v : Value} {l : List Nat} (h : w.ownsRow base e 1 v l.length (wv l)) : SL w v l := by
  have h' := h
  rcases h.2 with ⟨hv, hn⟩ | ⟨g, cap, cur, hv, hb, hg, h1, h2, h3, h4⟩
  · exact .inl ⟨List.length_eq_zero_iff.1 hn, none, 0, by rw [hv]⟩
  · subst hv
    refine .inr ⟨g, 0, cap, rfl, (Array.getElem?_eq_some_iff.1 hg).1, h1, fun i hi => ?_⟩
    rw [Nat.zero_add, h'.cellAt i (by omega), wv_at l i hi]

end Go.Proofs.Ytkmfncnfpneekaa
