/-
  Mathematics of a stable sort: one that is put into a sorted range, searched by halves.
-/
import Derived.Test.YtnjifmecaeagaaaDoorSoM
set_option linter.unusedVariables false
namespace Go.Proofs.YtnjifmecaeagaaaDoor
/-- the first one is moved behind smaller ones -/
def movR (d : List Nat) (a p k : Nat) : Nat := if k = p then d.getD a 0 else if a ≤ k ∧ k < p then d.getD (k + 1) 0 else d.getD k 0
structure Mvr (d e : List Nat) (a p b : Nat) : Prop where
  at_ : ∀ k, e.getD k 0 = movR d a p k
  mv : Mv a b d e
theorem Mvr.start (d : List Nat) (a b : Nat) : Mvr d d a a b := ⟨fun k => by
  unfold movR
  by_cases h : k = a
  · rw [if_pos h, h]
  · rw [if_neg h, if_neg (by omega)], Mv.refl _ _ _⟩
theorem Mvr.step {d e : List Nat} {a p b : Nat} (h : Mvr d e a p b) (ha : a ≤ p) (hp : p + 1 < b) (hb : b ≤ d.length) : Mvr d (swL e p (p + 1)) a (p + 1) b := by
  have hl := h.mv.len
  refine ⟨fun k => ?_, h.mv.trans (Mv.swap (by omega) (by omega) (by omega) (by omega) (by omega))⟩
  rw [swL_at (by omega) (by omega), h.at_, h.at_, h.at_]
  unfold movR
  by_cases e1 : k = p + 1
  · subst e1
    rw [if_pos rfl, if_pos rfl, if_pos rfl]
  · rw [if_neg e1, if_neg e1]
    by_cases e2 : k = p
    · subst e2
      rw [if_pos rfl, if_neg (by omega), if_neg (by omega), if_pos (by omega)]
    · rw [if_neg e2, if_neg e2]
      by_cases q : a ≤ k ∧ k < p
      · rw [if_pos q, if_pos (by omega)]
      · rw [if_neg q, if_neg (by omega)]
theorem Mvr.done {g : Nat → Int} {d e : List Nat} {a p b : Nat} (h : Mvr d e a p b) (hs : Srt g d (a + 1) b) (hp : p < b) (hap : a ≤ p) (h1 : ∀ q, a + 1 ≤ q → q ≤ p → g (d.getD q 0) < g (d.getD a 0)) (h2 : ∀ q, p < q → q < b → g (d.getD a 0) < g (d.getD q 0)) : Srt g e a b := by
  intro x y x1 x2 x3
  rw [h.at_, h.at_]
  unfold movR
  by_cases e1 : x = p
  · subst e1
    rw [if_pos rfl, if_neg (by omega), if_neg (by omega)]
    exact h2 _ (by omega) (by omega)
  · rw [if_neg e1]
    by_cases e2 : y = p
    · subst e2
      rw [if_pos rfl, if_pos (by omega)]
      exact h1 _ (by omega) (by omega)
    · rw [if_neg e2]
      by_cases k1 : a ≤ x ∧ x < p
      · rw [if_pos k1]
        by_cases k2 : a ≤ y ∧ y < p
        · rw [if_pos k2]; exact hs _ _ (by omega) (by omega) (by omega)
        · rw [if_neg k2]; exact hs _ _ (by omega) (by omega) (by omega)
      · rw [if_neg k1, if_neg (by omega)]
        exact hs _ _ (by omega) (by omega) (by omega)
/-- two sorted ranges of which one begins with less are searched by halves -/
theorem half_lo {g : Nat → Int} {d : List Nat} {lo hi h x : Nat} (hs : Srt g d lo hi) (hh : h < hi) (hx : g (d.getD h 0) < g (d.getD x 0)) : ∀ q, lo ≤ q → q < h + 1 → g (d.getD q 0) < g (d.getD x 0) := fun q q1 q2 => by
  have := le_of_srt hs (i := q) (j := h) q1 (by omega) hh
  omega
theorem half_hi {g : Nat → Int} {d : List Nat} {lo hi h x : Nat} (hs : Srt g d lo hi) (hl : lo ≤ h) (hx : g (d.getD x 0) < g (d.getD h 0)) : ∀ q, h ≤ q → q < hi → g (d.getD x 0) < g (d.getD q 0) := fun q q1 q2 => by
  have := le_of_srt hs (i := h) (j := q) hl q1 q2
  omega
theorem getD_mem_ {d : List Nat} {i : Nat} (h : i < d.length) : d.getD i 0 ∈ d := by
  rw [List.getD_eq_getElem?_getD, List.getElem?_eq_getElem h]; exact List.getElem_mem h
/-- all numbers of a range are below those of another -/
theorem lss_lt {d : List Nat} {lo hi lo2 hi2 i j : Nat} (h : Lss nI d lo hi lo2 hi2) (h1 : lo ≤ i) (h2 : i < hi) (h3 : lo2 ≤ j) (h4 : j < hi2) : d.getD i 0 < d.getD j 0 := nI_lt (h i j h1 h2 h3 h4)
theorem rotF_id {d : List Nat} {lo m hi : Nat} (h : lo = m ∨ m = hi) (k : Nat) : rotF d lo m hi k = d.getD k 0 := by
  unfold rotF
  by_cases k1 : lo ≤ k ∧ k < hi
  · rw [if_pos k1]
    rcases h with h | h
    · rw [if_pos (by omega)]; congr 1; omega
    · rw [if_neg (by omega)]; congr 1; omega
  · rw [if_neg k1]
theorem Cut.fin {g : Nat → Int} {d e e1 e2 : List Nat} {a m b s0 r0 start en : Nat} (c : Cut g d a m b s0 r0 start en) (l : Srt g d a m) (r : Srt g d m b) (hr : ∀ i, e.getD i 0 = rotF d start m en i)
    (m1 : Mv a ((a + b) / 2) e e1) (s1 : Srt g e1 a ((a + b) / 2)) (m2 : Mv ((a + b) / 2) b e1 e2) (s2 : Srt g e2 ((a + b) / 2) b) : Srt g e2 a b :=
  Srt.join (s1.mv m2 (.inr (Nat.le_refl _))) s2 (((c.mid l r hr).mv1 m1).mv2 m2)
theorem Srt.both {g : Nat → Int} {d : List Nat} {lo mid hi : Nat} (h1 : Srt g d lo mid) (h2 : Srt g d mid hi) (h : mid ≤ lo ∨ hi ≤ mid) : Srt g d lo hi := fun i j a b c => by
  rcases h with h | h
  · exact h2 i j (by omega) b c
  · exact h1 i j a b (by omega)
end Go.Proofs.YtnjifmecaeagaaaDoor
