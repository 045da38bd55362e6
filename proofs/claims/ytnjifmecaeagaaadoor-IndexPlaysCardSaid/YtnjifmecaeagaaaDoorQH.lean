/-
  The document's index: what stands for a chunk of which an index knows s (14 cells), and what is asked of it.
  The document's index: what taking, dropping, keeping, freeing a block does to what stands for a chunk.
  The document's turn: it is Drop, Keep and Free.
  The document's index in memory: its list of chunks, 14 cells each.
-/
import Derived.Test.YtnjifmecaeagaaaDoorQD
import Derived.Test.YtnjifmecaeagaaaDoorQN
section
set_option linter.unusedVariables false
set_option linter.unusedSimpArgs false
namespace Go.Proofs.YtnjifmecaeagaaaDoor
/-- the document's block k: 0 nothing, 1 live, 2 taken -/
def blkD (s : St) (k : Nat) : Nat := if kN s.1 = 1 then (if s.2.1.testBit k then 1 else if s.2.2.testBit k then 2 else 0) else 0
/-- is a huge one taken -/
def tknD (s : St) : Bool := decide (kN s.1 = 2 ∧ ¬ s.2.2 = 0)
theorem lt_bits {a m : Nat} (h : a < 2 ^ m) {k : Nat} (hk : m ≤ k) : a.testBit k = false := Nat.testBit_lt_two_pow (Nat.lt_of_lt_of_le h (Nat.pow_le_pow_right (by omega) hk))
theorem zero_bits {a m : Nat} (h : a < 2 ^ m) (h0 : ∀ k, k < m → a.testBit k = false) : a = 0 := by
  apply Nat.eq_of_testBit_eq
  intro k
  rw [Nat.zero_testBit]
  by_cases hk : k < m
  · exact h0 k hk
  · exact lt_bits h (by omega)
theorem blkD_out {s : St} (h : StOk s) {k : Nat} (hk : mnN (cN s.1) ≤ k) : blkD s k = 0 := by
  unfold blkD
  by_cases k1 : kN s.1 = 1
  · obtain ⟨h1, h2, _⟩ := h.run k1
    rw [if_pos k1, lt_bits h1 hk, lt_bits h2 hk]; rfl
  · rw [if_neg k1]
theorem blkD_zero {s : St} (k1 : kN s.1 = 1) (k : Nat) : blkD s k = 0 ↔ (s.2.1 ||| s.2.2).testBit k = false := by
  unfold blkD
  rw [if_pos k1, Nat.testBit_or]
  cases s.2.1.testBit k <;> cases s.2.2.testBit k <;> simp
theorem blkD_one {s : St} (k1 : kN s.1 = 1) (k : Nat) : blkD s k = 1 ↔ s.2.1.testBit k = true := by
  unfold blkD
  rw [if_pos k1]
  cases s.2.1.testBit k <;> cases s.2.2.testBit k <;> simp
theorem blkD_two {s : St} (h : StOk s) (k1 : kN s.1 = 1) (k : Nat) : blkD s k = 2 ↔ s.2.2.testBit k = true := by
  have h3 := congrArg (fun x => x.testBit k) (h.run k1).2.2
  simp only [Nat.testBit_and, Nat.zero_testBit] at h3
  unfold blkD
  rw [if_pos k1]
  revert h3
  cases s.2.1.testBit k <;> cases s.2.2.testBit k <;> simp
/-- can a chunk be had, as the document asks it -/
theorem may_same {s : St} (h : StOk s) : hadS s = true ↔ kN s.1 = 0 ∨ (kN s.1 = 1 ∧ ∀ k, k < 8 → blkD s k = 0) := by
  unfold hadS
  rw [Bool.or_eq_true, decide_eq_true_eq, decide_eq_true_eq]
  refine or_congr Iff.rfl ?_
  constructor
  · rintro ⟨k1, q⟩
    exact ⟨k1, fun k _ => (by rw [blkD_zero k1, q, Nat.zero_testBit])⟩
  · rintro ⟨k1, q⟩
    obtain ⟨h1, h2, _⟩ := h.run k1
    refine ⟨k1, zero_bits (m := 8) ?_ (fun k hk => (blkD_zero k1 k).1 (q k hk))⟩
    exact Nat.or_lt_two_pow (Nat.lt_of_lt_of_le h1 (Nat.pow_le_pow_right (by omega) (mnN_le _))) (Nat.lt_of_lt_of_le h2 (Nat.pow_le_pow_right (by omega) (mnN_le _)))
/-- the lowest block of which the document says 0 -/
theorem room_same {s : St} (k1 : kN s.1 = 1) (m j : Nat) : firstOff (s.2.1 ||| s.2.2) m = some j ↔ (j < m ∧ blkD s j = 0 ∧ ∀ k, k < j → ¬ blkD s k = 0) := by
  unfold firstOff
  constructor
  · intro h
    have h1 := List.mem_range.1 (List.mem_of_find?_eq_some h)
    have h2 := List.find?_some h
    refine ⟨h1, (blkD_zero k1 j).2 (by simpa using h2), fun k hk q => ?_⟩
    have h3 := (List.find?_eq_some_iff_getElem.1 h).2
    obtain ⟨i, hi, e, hn⟩ := h3
    rw [List.getElem_range] at e
    subst e
    have := hn k hk
    rw [List.getElem_range] at this
    rw [(blkD_zero k1 k).1 q] at this
    simp at this
  · rintro ⟨h1, h2, h3⟩
    rw [List.find?_eq_some_iff_getElem]
    refine ⟨by rw [(blkD_zero k1 j).1 h2]; rfl, j, by simpa using h1, by simp, fun k hk => ?_⟩
    rw [List.getElem_range]
    cases hb : (s.2.1 ||| s.2.2).testBit k with
    | true => rfl
    | false => exact absurd ((blkD_zero k1 k).2 hb) (h3 k hk)
end Go.Proofs.YtnjifmecaeagaaaDoor
end
section
set_option linter.unusedVariables false
set_option linter.unusedSimpArgs false
namespace Go.Proofs.YtnjifmecaeagaaaDoor
theorem clrD (a j k : Nat) : (clrN a (2 ^ j)).testBit k = (a.testBit k && !decide (k = j)) := by
  unfold clrN
  rw [Nat.testBit_xor, Nat.testBit_and, Nat.testBit_two_pow]
  by_cases e : k = j
  · subst e; cases a.testBit k <;> simp
  · cases a.testBit k <;> simp [e, Ne.symm e]
theorem orD (a j k : Nat) : (a ||| 2 ^ j).testBit k = (a.testBit k || decide (k = j)) := by
  rw [Nat.testBit_or, Nat.testBit_two_pow]
  by_cases e : k = j
  · subst e; simp
  · simp [e, Ne.symm e]
theorem apart_bit {s : St} (h : StOk s) (k1 : kN s.1 = 1) (k : Nat) : ¬ (s.2.1.testBit k = true ∧ s.2.2.testBit k = true) := by
  have h3 := congrArg (fun x => x.testBit k) (h.run k1).2.2
  simp only [Nat.testBit_and, Nat.zero_testBit] at h3
  rintro ⟨a, b⟩
  rw [a, b] at h3
  simp at h3
theorem blkD_take {s : St} (k1 : kN s.1 = 1) {j : Nat} (hj : blkD s j = 0) (k : Nat) : blkD (s.1, s.2.1, s.2.2 ||| 2 ^ j) k = if k = j then 2 else blkD s k := by
  have h0 := (blkD_zero k1 j).1 hj
  rw [Nat.testBit_or, Bool.or_eq_false_iff] at h0
  unfold blkD
  simp only [if_pos k1, orD]
  by_cases e : k = j
  · subst e; simp [h0.1]
  · simp [e]
theorem blkD_drop {s : St} (h : StOk s) (k1 : kN s.1 = 1) {j : Nat} (hj : s.2.2.testBit j = true) (k : Nat) : blkD (s.1, s.2.1, clrN s.2.2 (2 ^ j)) k = if k = j then 0 else blkD s k := by
  have h0 := apart_bit h k1 j
  unfold blkD
  simp only [if_pos k1, clrD]
  by_cases e : k = j
  · subst e
    cases hb : s.2.1.testBit k with
    | true => exact absurd ⟨hb, hj⟩ h0
    | false => simp
  · simp [e]
theorem blkD_keep {s : St} (k1 : kN s.1 = 1) (j k : Nat) : blkD (s.1, s.2.1 ||| 2 ^ j, clrN s.2.2 (2 ^ j)) k = if k = j then 1 else blkD s k := by
  unfold blkD
  simp only [if_pos k1, clrD, orD]
  by_cases e : k = j
  · subst e; simp
  · simp [e]
theorem blkD_free {s : St} (h : StOk s) (k1 : kN s.1 = 1) {j : Nat} (hj : s.2.1.testBit j = true) (k : Nat) : blkD (s.1, clrN s.2.1 (2 ^ j), s.2.2) k = if k = j then 0 else blkD s k := by
  have h0 := apart_bit h k1 j
  unfold blkD
  simp only [if_pos k1, clrD]
  by_cases e : k = j
  · subst e
    cases hb : s.2.2.testBit k with
    | true => exact absurd ⟨hj, hb⟩ h0
    | false => simp
  · simp [e]
/-- a run's word that tells which blocks are live, by definition: bit by bit -/
theorem blkD_fresh (c : Nat) (hc : c < 3) (k : Nat) : blkD (1 + 8 * c, 0, 1) k = if k = 0 then 2 else 0 := by
  have k1 : kN (1 + 8 * c) = 1 := (parts_run c hc).1
  unfold blkD
  simp only [if_pos k1, Nat.zero_testBit]
  by_cases e : k = 0
  · subst e; simp
  · rw [if_neg e, show (1 : Nat) = 2 ^ 0 from rfl, Nat.testBit_two_pow]
    simp [e, Ne.symm e]
end Go.Proofs.YtnjifmecaeagaaaDoor
end
section
set_option linter.unusedVariables false
set_option linter.unusedSimpArgs false
namespace Go.Proofs.YtnjifmecaeagaaaDoor
def setD (s : St) (j nx : Nat) : St := if nx = 0 then (s.1, clrN s.2.1 (2 ^ j), clrN s.2.2 (2 ^ j)) else (s.1, s.2.1 ||| 2 ^ j, clrN s.2.2 (2 ^ j))
def turnS (S : List St) (ch ix cl mn : Int) (is nx : Nat) : Bool × List St :=
  if 0 ≤ ch ∧ ch < S.length then
    (if cl = -1 then
      (if kN (gS S ch.toNat).1 = 2 ∧ mn = (mN (gS S ch.toNat).1 : Nat) ∧ ix = 0 ∧ (if tknD (gS S ch.toNat) then 2 else 1) = is then
        (true, if nx = 0 then fillS S ch.toNat (0, 0, 0) mn.toNat else S.set ch.toNat ((gS S ch.toNat).1, 1, 0))
       else (false, S))
     else
      (if kN (gS S ch.toNat).1 = 1 ∧ cl = (cN (gS S ch.toNat).1 : Nat) ∧ 0 ≤ ix ∧ ix < (mnN (cN (gS S ch.toNat).1) : Nat) ∧ blkD (gS S ch.toNat) ix.toNat = is then
        (true, S.set ch.toNat (setD (gS S ch.toNat) ix.toNat nx))
       else (false, S)))
  else (false, S)
theorem clr_none {a j : Nat} (h : a.testBit j = false) : clrN a (2 ^ j) = a := by
  apply Nat.eq_of_testBit_eq
  intro k
  rw [clrD]
  by_cases e : k = j
  · subst e; rw [h]; rfl
  · simp [e]
theorem fill_set (S : List St) (a m : Nat) (s t : St) (hm : 1 ≤ m) (h : a + m ≤ S.length) : fillS (S.set a t) a s m = fillS S a s m := by
  apply List.ext_getElem?
  intro i
  have e1 := fill_at (S.set a t) a s m (by rw [List.length_set]; exact h) i
  have e2 := fill_at S a s m h i
  have l1 : (fillS (S.set a t) a s m).length = S.length := by rw [fill_len, List.length_set]
  have l2 := fill_len S a s m
  by_cases hi : i < S.length
  · rw [gS_set S a t i (by omega)] at e1
    have e3 : gS (fillS (S.set a t) a s m) i = gS (fillS S a s m) i := by
      rw [e1, e2]
      by_cases q : a ≤ i ∧ i < a + m
      · rw [if_pos q, if_pos q]
      · rw [if_neg q, if_neg q, if_neg (by omega)]
    unfold gS at e3
    rw [List.getD_eq_getElem?_getD, List.getD_eq_getElem?_getD, List.getElem?_eq_getElem (by omega), List.getElem?_eq_getElem (by omega)] at e3
    rw [List.getElem?_eq_getElem (by omega), List.getElem?_eq_getElem (by omega)]
    exact congrArg some e3
  · rw [List.getElem?_eq_none (by omega), List.getElem?_eq_none (by omega)]
theorem turn_drop {S : List St} (h : SOk S) (ch ix cl mn : Int) : turnS S ch ix cl mn 2 0 = dropS S ch ix cl mn := by
  by_cases h0 : 0 ≤ ch ∧ ch < S.length
  · obtain ⟨i, rfl⟩ : ∃ i : Nat, ch = (i : Int) := ⟨ch.toNat, by omega⟩
    have hi : i < S.length := by omega
    have hs := h.each i hi
    have hm := fun k2 => huge_many h (i := i) hi k2
    unfold turnS dropS
    have hb : bitS S (i : Nat) ix cl mn = (if kN (gS S i).1 = 1 ∧ cl = (cN (gS S i).1 : Nat) ∧ 0 ≤ ix ∧ ix < (mnN (cN (gS S i).1) : Nat) then 2 ^ ix.toNat else if kN (gS S i).1 = 2 ∧ cl = -1 ∧ ix = 0 ∧ mn = (mN (gS S i).1 : Nat) then 1 else 0) := by
      unfold bitS; rw [if_pos h0, Int.toNat_natCast]
    rw [if_pos h0, hb]
    rw [Int.toNat_natCast] at *
    generalize hg : gS S i = s at *
    by_cases c1 : cl = -1
    · rw [if_pos c1, if_neg (show ¬ (kN s.1 = 1 ∧ cl = (cN s.1 : Nat) ∧ 0 ≤ ix ∧ ix < (mnN (cN s.1) : Nat)) by omega)]
      by_cases c2 : kN s.1 = 2 ∧ ix = 0 ∧ mn = (mN s.1 : Nat)
      · obtain ⟨k2, x0, m0⟩ := c2
        rw [if_pos (show kN s.1 = 2 ∧ cl = -1 ∧ ix = 0 ∧ mn = (mN s.1 : Nat) from ⟨k2, c1, x0, m0⟩)]
        obtain ⟨x, lv, tk⟩ := s
        have hmm := hm k2
        simp only [] at *
        rcases hs.huge k2 with ⟨q1, q2⟩ | ⟨q1, q2⟩
        all_goals simp only [] at q1 q2
        all_goals subst q1 q2
        all_goals simp [tknD, k2, x0, m0, c1, vacS, clrN]
        all_goals (rw [fill_set _ _ _ _ _ (by omega) (by omega)])
      · rw [if_neg (show ¬ (kN s.1 = 2 ∧ cl = -1 ∧ ix = 0 ∧ mn = (mN s.1 : Nat)) from fun q => c2 ⟨q.1, q.2.2.1, q.2.2.2⟩), if_neg (fun q => c2 ⟨q.1, q.2.2.1, q.2.1⟩), if_pos (.inl rfl)]
    · rw [if_neg c1]
      by_cases c2 : kN s.1 = 1 ∧ cl = (cN s.1 : Nat) ∧ 0 ≤ ix ∧ ix < (mnN (cN s.1) : Nat)
      · rw [if_pos c2]
        have k1 := c2.1
        have hp : ¬ 2 ^ ix.toNat = 0 := by have := Nat.two_pow_pos ix.toNat; omega
        have hap := apart_bit hs k1 ix.toNat
        by_cases hq : blkD s ix.toNat = 2
        · have hb2 := (blkD_two hs k1 ix.toNat).1 hq
          rw [if_pos ⟨c2.1, c2.2.1, c2.2.2.1, c2.2.2.2, hq⟩, if_neg (by rintro (q | q); exact hp q; rw [and_pow.1 q] at hb2; cases hb2)]
          have hn : s.2.1.testBit ix.toNat = false := by
            cases hz : s.2.1.testBit ix.toNat with
            | false => rfl
            | true => exact absurd ⟨hz, hb2⟩ hap
          simp [vacS, c1, setD, clr_none hn]
        · rw [if_neg (fun q => hq q.2.2.2.2), if_pos]
          refine .inr (and_pow.2 ?_)
          cases hz : s.2.2.testBit ix.toNat with
          | false => rfl
          | true => exact absurd ((blkD_two hs k1 ix.toNat).2 hz) hq
      · rw [if_neg c2, if_neg (show ¬ (kN s.1 = 2 ∧ cl = -1 ∧ ix = 0 ∧ mn = (mN s.1 : Nat)) from fun q => c1 q.2.1), if_neg (show ¬ (kN s.1 = 1 ∧ cl = (cN s.1 : Nat) ∧ 0 ≤ ix ∧ ix < (mnN (cN s.1) : Nat) ∧ blkD s ix.toNat = 2) from fun q => c2 ⟨q.1, q.2.1, q.2.2.1, q.2.2.2.1⟩), if_pos (.inl rfl)]
  · have hb : bitS S ch ix cl mn = 0 := by unfold bitS; rw [if_neg h0]
    unfold turnS dropS
    rw [if_neg h0, hb, if_pos (.inl rfl)]
theorem turn_keep {S : List St} (h : SOk S) (ch ix cl mn : Int) : turnS S ch ix cl mn 2 1 = keepS S ch ix cl mn := by
  by_cases h0 : 0 ≤ ch ∧ ch < S.length
  · obtain ⟨i, rfl⟩ : ∃ i : Nat, ch = (i : Int) := ⟨ch.toNat, by omega⟩
    have hi : i < S.length := by omega
    have hs := h.each i hi
    have hm := fun k2 => huge_many h (i := i) hi k2
    unfold turnS keepS
    have hb : bitS S (i : Nat) ix cl mn = (if kN (gS S i).1 = 1 ∧ cl = (cN (gS S i).1 : Nat) ∧ 0 ≤ ix ∧ ix < (mnN (cN (gS S i).1) : Nat) then 2 ^ ix.toNat else if kN (gS S i).1 = 2 ∧ cl = -1 ∧ ix = 0 ∧ mn = (mN (gS S i).1 : Nat) then 1 else 0) := by
      unfold bitS; rw [if_pos h0, Int.toNat_natCast]
    rw [if_pos h0, hb]
    rw [Int.toNat_natCast] at *
    generalize hg : gS S i = s at *
    by_cases c1 : cl = -1
    · rw [if_pos c1, if_neg (show ¬ (kN s.1 = 1 ∧ cl = (cN s.1 : Nat) ∧ 0 ≤ ix ∧ ix < (mnN (cN s.1) : Nat)) by omega)]
      by_cases c2 : kN s.1 = 2 ∧ ix = 0 ∧ mn = (mN s.1 : Nat)
      · obtain ⟨k2, x0, m0⟩ := c2
        rw [if_pos (show kN s.1 = 2 ∧ cl = -1 ∧ ix = 0 ∧ mn = (mN s.1 : Nat) from ⟨k2, c1, x0, m0⟩)]
        obtain ⟨x, lv, tk⟩ := s
        have hmm := hm k2
        simp only [] at *
        rcases hs.huge k2 with ⟨q1, q2⟩ | ⟨q1, q2⟩
        all_goals simp only [] at q1 q2
        all_goals subst q1 q2
        all_goals simp [tknD, k2, x0, m0, c1, vacS, clrN]
        all_goals (rw [fill_set _ _ _ _ _ (by omega) (by omega)])
      · rw [if_neg (show ¬ (kN s.1 = 2 ∧ cl = -1 ∧ ix = 0 ∧ mn = (mN s.1 : Nat)) from fun q => c2 ⟨q.1, q.2.2.1, q.2.2.2⟩), if_neg (fun q => c2 ⟨q.1, q.2.2.1, q.2.1⟩), if_pos (.inl rfl)]
    · rw [if_neg c1]
      by_cases c2 : kN s.1 = 1 ∧ cl = (cN s.1 : Nat) ∧ 0 ≤ ix ∧ ix < (mnN (cN s.1) : Nat)
      · rw [if_pos c2]
        have k1 := c2.1
        have hp : ¬ 2 ^ ix.toNat = 0 := by have := Nat.two_pow_pos ix.toNat; omega
        have hap := apart_bit hs k1 ix.toNat
        by_cases hq : blkD s ix.toNat = 2
        · have hb2 := (blkD_two hs k1 ix.toNat).1 hq
          rw [if_pos ⟨c2.1, c2.2.1, c2.2.2.1, c2.2.2.2, hq⟩, if_neg (by rintro (q | q); exact hp q; rw [and_pow.1 q] at hb2; cases hb2)]
          have hn : s.2.1.testBit ix.toNat = false := by
            cases hz : s.2.1.testBit ix.toNat with
            | false => rfl
            | true => exact absurd ⟨hz, hb2⟩ hap
          simp [vacS, c1, setD, clr_none hn]
        · rw [if_neg (fun q => hq q.2.2.2.2), if_pos]
          refine .inr (and_pow.2 ?_)
          cases hz : s.2.2.testBit ix.toNat with
          | false => rfl
          | true => exact absurd ((blkD_two hs k1 ix.toNat).2 hz) hq
      · rw [if_neg c2, if_neg (show ¬ (kN s.1 = 2 ∧ cl = -1 ∧ ix = 0 ∧ mn = (mN s.1 : Nat)) from fun q => c1 q.2.1), if_neg (show ¬ (kN s.1 = 1 ∧ cl = (cN s.1 : Nat) ∧ 0 ≤ ix ∧ ix < (mnN (cN s.1) : Nat) ∧ blkD s ix.toNat = 2) from fun q => c2 ⟨q.1, q.2.1, q.2.2.1, q.2.2.2.1⟩), if_pos (.inl rfl)]
  · have hb : bitS S ch ix cl mn = 0 := by unfold bitS; rw [if_neg h0]
    unfold turnS keepS
    rw [if_neg h0, hb, if_pos (.inl rfl)]

theorem turn_free {S : List St} (h : SOk S) (ch ix cl mn : Int) : turnS S ch ix cl mn 1 0 = freeS S ch ix cl mn := by
  by_cases h0 : 0 ≤ ch ∧ ch < S.length
  · obtain ⟨i, rfl⟩ : ∃ i : Nat, ch = (i : Int) := ⟨ch.toNat, by omega⟩
    have hi : i < S.length := by omega
    have hs := h.each i hi
    have hm := fun k2 => huge_many h (i := i) hi k2
    unfold turnS freeS
    have hb : bitS S (i : Nat) ix cl mn = (if kN (gS S i).1 = 1 ∧ cl = (cN (gS S i).1 : Nat) ∧ 0 ≤ ix ∧ ix < (mnN (cN (gS S i).1) : Nat) then 2 ^ ix.toNat else if kN (gS S i).1 = 2 ∧ cl = -1 ∧ ix = 0 ∧ mn = (mN (gS S i).1 : Nat) then 1 else 0) := by
      unfold bitS; rw [if_pos h0, Int.toNat_natCast]
    rw [if_pos h0, hb]
    rw [Int.toNat_natCast] at *
    generalize hg : gS S i = s at *
    by_cases c1 : cl = -1
    · rw [if_pos c1, if_neg (show ¬ (kN s.1 = 1 ∧ cl = (cN s.1 : Nat) ∧ 0 ≤ ix ∧ ix < (mnN (cN s.1) : Nat)) by omega)]
      by_cases c2 : kN s.1 = 2 ∧ ix = 0 ∧ mn = (mN s.1 : Nat)
      · obtain ⟨k2, x0, m0⟩ := c2
        rw [if_pos (show kN s.1 = 2 ∧ cl = -1 ∧ ix = 0 ∧ mn = (mN s.1 : Nat) from ⟨k2, c1, x0, m0⟩)]
        obtain ⟨x, lv, tk⟩ := s
        have hmm := hm k2
        simp only [] at *
        rcases hs.huge k2 with ⟨q1, q2⟩ | ⟨q1, q2⟩
        all_goals simp only [] at q1 q2
        all_goals subst q1 q2
        all_goals simp [tknD, k2, x0, m0, c1, vacS, clrN]
        all_goals (rw [fill_set _ _ _ _ _ (by omega) (by omega)])
      · rw [if_neg (show ¬ (kN s.1 = 2 ∧ cl = -1 ∧ ix = 0 ∧ mn = (mN s.1 : Nat)) from fun q => c2 ⟨q.1, q.2.2.1, q.2.2.2⟩), if_neg (fun q => c2 ⟨q.1, q.2.2.1, q.2.1⟩), if_pos (.inl rfl)]
    · rw [if_neg c1]
      by_cases c2 : kN s.1 = 1 ∧ cl = (cN s.1 : Nat) ∧ 0 ≤ ix ∧ ix < (mnN (cN s.1) : Nat)
      · rw [if_pos c2]
        have k1 := c2.1
        have hp : ¬ 2 ^ ix.toNat = 0 := by have := Nat.two_pow_pos ix.toNat; omega
        have hap := apart_bit hs k1 ix.toNat
        by_cases hq : blkD s ix.toNat = 1
        · have hb2 := (blkD_one k1 ix.toNat).1 hq
          rw [if_pos ⟨c2.1, c2.2.1, c2.2.2.1, c2.2.2.2, hq⟩, if_neg (by rintro (q | q); exact hp q; rw [and_pow.1 q] at hb2; cases hb2)]
          have hn : s.2.2.testBit ix.toNat = false := by
            cases hz : s.2.2.testBit ix.toNat with
            | false => rfl
            | true => exact absurd ⟨hb2, hz⟩ hap
          simp [vacS, c1, setD, clr_none hn]
        · rw [if_neg (fun q => hq q.2.2.2.2), if_pos]
          refine .inr (and_pow.2 ?_)
          cases hz : s.2.1.testBit ix.toNat with
          | false => rfl
          | true => exact absurd ((blkD_one k1 ix.toNat).2 hz) hq
      · rw [if_neg c2, if_neg (show ¬ (kN s.1 = 2 ∧ cl = -1 ∧ ix = 0 ∧ mn = (mN s.1 : Nat)) from fun q => c1 q.2.1), if_neg (show ¬ (kN s.1 = 1 ∧ cl = (cN s.1 : Nat) ∧ 0 ≤ ix ∧ ix < (mnN (cN s.1) : Nat) ∧ blkD s ix.toNat = 1) from fun q => c2 ⟨q.1, q.2.1, q.2.2.1, q.2.2.2.1⟩), if_pos (.inl rfl)]
  · have hb : bitS S ch ix cl mn = 0 := by unfold bitS; rw [if_neg h0]
    unfold turnS freeS
    rw [if_neg h0, hb, if_pos (.inl rfl)]
end Go.Proofs.YtnjifmecaeagaaaDoor
end
section
set_option linter.unusedVariables false
set_option linter.unusedSimpArgs false
namespace Go.Proofs.YtnjifmecaeagaaaDoor
open Go.RowKit Go.ChangeShapes Go.WideShapes Go.Deep Go.Shelf
def dS (s : St) : List Value := [.int .i64 (kN s.1 : Nat), .int .i64 (cN s.1 : Nat), .int .i64 (lnN s.1 : Nat), .int .i64 (mN s.1 : Nat), .int .u64 0, .int .i64 (blkD s 0 : Nat), .int .i64 (blkD s 1 : Nat), .int .i64 (blkD s 2 : Nat), .int .i64 (blkD s 3 : Nat), .int .i64 (blkD s 4 : Nat), .int .i64 (blkD s 5 : Nat), .int .i64 (blkD s 6 : Nat), .int .i64 (blkD s 7 : Nat), .bool (tknD s)]
theorem dS_len (x : St) : (dS x).length = 14 := rfl
theorem infoD : (Tryd.prog.info? 105).map (fun i => (i.zero, i.size, i.bytes)) = some (some (.agg #[.int .i64 0, .int .i64 0, .int .i64 0, .int .i64 0, .int .u64 0, .int .i64 0, .int .i64 0, .int .i64 0, .int .i64 0, .int .i64 0, .int .i64 0, .int .i64 0, .int .i64 0, .bool false]), 14, 112) := by kernel_rfl
theorem dT : ElT Tryd.prog 100 105 14 112 dS :=
  ⟨Tryd.underlying100, by obtain ⟨i0, h1, h2, h3, h4⟩ := info_parts infoD; exact ⟨i0, _, h1, h2, h3, h4, rfl⟩, dS_len, fun x u hu => by simp only [dS, List.mem_cons, List.not_mem_nil, or_false] at hu; rcases hu with rfl | rfl | rfl | rfl | rfl | rfl | rfl | rfl | rfl | rfl | rfl | rfl | rfl | rfl <;> rfl, by decide, by decide⟩
abbrev DKO (w : World) (base : Nat) (v : Value) (l : List St) : Prop := OwnE 105 14 dS w base v l
/-- the document's index: its box in block B, its row of chunks -/
structure YAt (w : World) (base B : Nat) (v : Value) (S : List St) : Prop where
  box : Boxed w B 102 v
  row : DKO w base v S
  lo : base ≤ B
theorem YAt.ne {w : World} {base B : Nat} {v : Value} {S : List St} (h : YAt w base B v S) : ∀ k, v.ownBlock = some k → k ≠ B := by
  rintro k hk rfl
  have hb : w.heap[k]? = some (.cells #[v] 102 (0, 0)) := h.box
  rcases h.row.2 with ⟨rfl, _⟩ | ⟨g, cap, cur, rfl, _, hg, _⟩
  · cases hk
  · cases hk
    rw [hb] at hg
    cases hg
theorem YAt.keep {w w1 : World} {base B : Nat} {v : Value} {S : List St} (h : YAt w base B v S) (hb : Below w.heap.size w w1) : YAt w1 base B v S :=
  ⟨(hb.block B h.box.lt).trans h.box, h.row.keep hb, h.lo⟩
theorem YAt.chg {F : Nat → Prop} {w w1 : World} {base B : Nat} {v : Value} {S : List St} (h : YAt w base B v S) (hc : Chg F w w1) (hB : ¬ F B) (hv : ∀ k, v.ownBlock = some k → ¬ F k) : YAt w1 base B v S :=
  ⟨(hc.block B h.box.lt hB).trans h.box, h.row.chg hc hv, h.lo⟩
end Go.Proofs.YtnjifmecaeagaaaDoor
end
