/-
  The laws of package seal: the chapter's example, SealHalves, SealTells.
-/
import Derived.Test.YtkmfncnfpneekaaUSeal4
set_option linter.unusedVariables false
namespace Go.Proofs.Ytkmfncnfpneekaa
open Go.RowKit

theorem SL.one (w : World) (x : Nat) (t : TypeId) : SL (w.alloc (.cells #[.int .u64 x] t)) (.slice (some ⟨w.heap.size, 0, none⟩) 1 1) [x] := by
  refine .inr ⟨w.heap.size, 0, 1, rfl, by simp, by simp, fun i hi => ?_⟩
  obtain rfl : i = 0 := by simp at hi; omega
  simp [go_sem]
theorem SL.pos {w : World} {v : Value} {l : List Nat} {n : Nat} (h : SL w v l) (hn : l.length = n + 1) : ∃ g off cap, v = .slice (some ⟨g, off, none⟩) (n + 1) cap ∧ g < w.heap.size ∧ n + 1 ≤ cap ∧ ∀ i, i < n + 1 → w.cell? ⟨g, off + i, none⟩ = some (.int .u64 (l.getD i 0 : Nat)) := by
  rcases h with ⟨rfl, _⟩ | ⟨g, off, cap, rfl, hg, hcap, hc⟩
  · simp at hn
  · exact ⟨g, off, cap, by rw [hn], hg, by omega, fun i hi => hc i (by omega)⟩
theorem WL.nil : WL [] := fun x h => by simp at h
theorem WL.one {x : Nat} (h : x < 18446744073709551616) : WL [x] := fun y hy => by simp at hy; omega
theorem WL.append {l k : List Nat} (h : WL l) (h2 : WL k) : WL (l ++ k) := fun x hx => by
  rcases List.mem_append.1 hx with h3 | h3
  · exact h x h3
  · exact h2 x h3
theorem m7 : moreN 0 [7] < 4294967296 := moreN_lt 0 [7]

theorem step_inj (a b x : Nat) (ha : a < 4294967296) (hb : b < 4294967296) (h : stepN a x = stepN b x) : a = b := by
  have key : ∀ r, r < 4294967296 → (stepN r x).testBit 31 = decide ((r ^^^ x) % 2 = 1) ∧ (decide ((r ^^^ x) % 2 = 1) = (r.testBit 0 ^^ x.testBit 0)) := by
    intro r hr
    constructor
    · unfold stepN
      have hh : (r / 2).testBit 31 = false := Nat.testBit_lt_two_pow (by omega)
      split
      · rename_i h1
        rw [Nat.testBit_xor, hh, decide_eq_true h1]
        decide +kernel
      · rename_i h1
        rw [hh, decide_eq_false h1]
    · rw [← Nat.testBit_xor, Nat.testBit_zero]
  obtain ⟨a1, a2⟩ := key a ha
  obtain ⟨b1, b2⟩ := key b hb
  rw [h, b1] at a1
  have hbit : a.testBit 0 = b.testBit 0 := by
    rw [a1, a2] at b2
    have : (a.testBit 0 ^^ x.testBit 0) = (b.testBit 0 ^^ x.testBit 0) := b2
    revert this
    cases a.testBit 0 <;> cases b.testBit 0 <;> cases x.testBit 0 <;> simp
  have hdiv : a / 2 = b / 2 := by
    unfold stepN at h
    by_cases c : (a ^^^ x) % 2 = 1
    · have c2 : (b ^^^ x) % 2 = 1 := by simpa [c] using a1
      rw [if_pos c, if_pos c2] at h
      have := congrArg (· ^^^ 3988292384) h
      simpa [Nat.xor_assoc, Nat.xor_self] using this
    · have c2 : ¬ (b ^^^ x) % 2 = 1 := by simpa [c] using a1
      rwa [if_neg c, if_neg c2] at h
  rw [Nat.testBit_zero, Nat.testBit_zero] at hbit
  have : a % 2 = b % 2 := by
    by_cases c : a % 2 = 1
    · have : b % 2 = 1 := by simpa [c] using hbit
      omega
    · have : ¬ b % 2 = 1 := by simpa [c] using hbit
      omega
  omega
theorem turn_inj (n : Nat) : ∀ (a b x : Nat), a < 4294967296 → b < 4294967296 → turnN n a x = turnN n b x → a = b := by
  induction n with
  | zero => intro a b x _ _ h; exact h
  | succ n ih =>
    intro a b x ha hb h
    exact step_inj a b x ha hb (ih _ _ _ (stepN_lt a x ha) (stepN_lt b x hb) h)
theorem fold_inj (l : List Nat) : ∀ (a b : Nat), a < 4294967296 → b < 4294967296 → foldT a l = foldT b l → a = b := by
  induction l with
  | nil => intro a b _ _ h; exact h
  | cons x l ih =>
    intro a b ha hb h
    exact turn_inj 64 a b x ha hb (ih _ _ (turnN_lt 64 a x ha) (turnN_lt 64 b x hb) h)
theorem more_inj (s t : Nat) (l : List Nat) (hs : s < 4294967296) (ht : t < 4294967296) (h : moreN s l = moreN t l) : s = t := by
  unfold moreN at h
  have h1 := foldT_lt l (4294967295 - s) (by omega)
  have h2 := foldT_lt l (4294967295 - t) (by omega)
  have := fold_inj l (4294967295 - s) (4294967295 - t) (by omega) (by omega) (by omega)
  omega
end Go.Proofs.Ytkmfncnfpneekaa
