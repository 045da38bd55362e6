/-
  The laws of package tile: TileOne.
-/
import Derived.Test.YtnjifmecaeagaaaDoorTi13
import Derived.Test.YtnjifmecaeagaaaDoorIxM
set_option linter.unusedVariables false
set_option linter.unusedSimpArgs false
namespace Go.Proofs.YtnjifmecaeagaaaDoor
open Go.RowKit Go.ChangeShapes Go.WideShapes Go.Deep
theorem run_right (c b : Int) (h : (c = 0 ∧ b < 256) ∨ (c = 1 ∧ b < 16) ∨ (c = 2 ∧ b < 4)) : rightB 1 c 0 0 b = true := right_yes (by unfold RightP; omega)
theorem word_or (c : Int) (b j : Nat) (c0 : 0 ≤ c) (c1 : c < 3) (hb : b < 256) (hj : j ≤ 7) : bits .or .u64 (wordI 1 c 0 0 b) (16777216 * pwI j) = wordI 1 c 0 0 ((b ||| 2 ^ j : Nat) : Int) := by
  obtain ⟨n, rfl⟩ := Int.eq_ofNat_of_zero_le c0
  have hp : 2 ^ j ≤ 128 := by
    have := Nat.pow_le_pow_right (by omega : 2 > 0) hj
    omega
  have e1 : wordI 1 n 0 0 b = ((2 ^ 24 * b + (1 + 8 * n) : Nat) : Int) := by unfold wordI; omega
  have e2 : (16777216 : Int) * pwI j = ((2 ^ 24 * 2 ^ j : Nat) : Int) := by unfold pwI; omega
  have e3 : wordI 1 n 0 0 ((b ||| 2 ^ j : Nat) : Int) = ((2 ^ 24 * (b ||| 2 ^ j) + (1 + 8 * n) : Nat) : Int) := by unfold wordI; omega
  have hl : b ||| 2 ^ j < 256 := Nat.or_lt_two_pow (n := 8) hb (by omega)
  rw [e1, e2, e3, u64_or_nat _ _ (by omega) (by omega)]
  congr 1
  apply Nat.eq_of_testBit_eq
  intro i
  rw [Nat.testBit_or, Nat.testBit_two_pow_mul_add _ (by omega), Nat.testBit_two_pow_mul_add _ (by omega), Nat.testBit_two_pow_mul]
  by_cases h : i < 24
  · simp [h]; omega
  · simp [h, Nat.testBit_or, show 24 ≤ i by omega]
theorem word_not (c : Int) (b j : Nat) (c0 : 0 ≤ c) (c1 : c < 3) (hb : b < 256) (hj : j ≤ 7) : bits .andNot .u64 (wordI 1 c 0 0 b) (16777216 * pwI j) = wordI 1 c 0 0 ((b &&& (18446744073709551615 - 2 ^ j) : Nat) : Int) := by
  obtain ⟨n, rfl⟩ := Int.eq_ofNat_of_zero_le c0
  have hp : 2 ^ j ≤ 128 := by
    have := Nat.pow_le_pow_right (by omega : 2 > 0) hj
    omega
  have e1 : wordI 1 n 0 0 b = ((2 ^ 24 * b + (1 + 8 * n) : Nat) : Int) := by unfold wordI; omega
  have e2 : (16777216 : Int) * pwI j = ((2 ^ 24 * 2 ^ j : Nat) : Int) := by unfold pwI; omega
  have hl : b &&& (18446744073709551615 - 2 ^ j) ≤ b := Nat.and_le_left
  have e3 : wordI 1 n 0 0 ((b &&& (18446744073709551615 - 2 ^ j) : Nat) : Int) = ((2 ^ 24 * (b &&& (18446744073709551615 - 2 ^ j)) + (1 + 8 * n) : Nat) : Int) := by unfold wordI; omega
  rw [e1, e2, e3, u64_andNot_nat _ _ (by omega) (by omega)]
  congr 1
  apply Nat.eq_of_testBit_eq
  intro i
  rw [Nat.testBit_and, Nat.testBit_two_pow_mul_add _ (by omega), Nat.testBit_two_pow_mul_add _ (by omega), show 18446744073709551615 - 2 ^ 24 * 2 ^ j = 2 ^ 64 - (2 ^ (24 + j) + 1) by rw [Nat.pow_add]; omega, Nat.testBit_two_pow_sub_succ (by rw [Nat.pow_add]; omega)]
  by_cases h : i < 24
  · simp only [h, if_true]
    by_cases hi : i < 64
    · simp [hi, show ¬ 24 + j = i by omega]
    · omega
  · simp only [h, if_false]
    rw [Nat.testBit_and, show 18446744073709551615 - 2 ^ j = 2 ^ 64 - (2 ^ j + 1) by omega, Nat.testBit_two_pow_sub_succ (by omega)]
    by_cases hbt : b.testBit (i - 24) = true
    · have : i - 24 < 8 := by
        refine Nat.lt_of_not_le fun hh => ?_
        have := Nat.testBit_lt_two_pow (Nat.lt_of_lt_of_le hb (show 256 ≤ 2 ^ (i - 24) from Nat.pow_le_pow_right (by omega : 2 > 0) hh))
        rw [this] at hbt; simp at hbt
      simp [hbt, Nat.testBit_two_pow, show i < 64 by omega, show i - 24 < 64 by omega]
      omega
    · simp [show b.testBit (i - 24) = false by simpa using hbt]
theorem OwnU.set {w : World} {base g cap n i y : Nat} {I : List Nat} (h : OwnU w base (.slice (some ⟨g, 0, none⟩) n cap) I) (hn : I.length = n) (hi : i < n) : OwnU (w.setCell ⟨g, i, none⟩ (.int .u64 (y : Nat))) base (.slice (some ⟨g, 0, none⟩) n cap) (I.set i y) := by
  unfold OwnU at h ⊢
  rw [hn] at h
  rw [List.length_set, hn, List.map_set]
  exact (World.ownsRow.stored h i _).1
theorem OwnU.cell {w : World} {base g cap n i : Nat} {I : List Nat} (h : OwnU w base (.slice (some ⟨g, 0, none⟩) n cap) I) (hn : I.length = n) (hi : i < n) : w.cell? ⟨g, i, none⟩ = some (.int .u64 (I.getD i 0 : Nat)) ∧ w.frozen? ⟨g, i, none⟩ = false := by
  unfold OwnU at h
  rw [hn] at h
  refine ⟨?_, h.frozenAt _⟩
  rw [World.ownsRow.cellAt h i (by omega), List.getElem?_map, List.getElem?_eq_getElem (by omega), List.getD_eq_getElem?_getD, List.getElem?_eq_getElem (by omega)]
  rfl

theorem OwnU.frm {w : World} {base n : Nat} {v : Value} {l : List Nat} (h : OwnU w base v l) (hn : l.length = n) (hp : 0 < n) : ∃ g cap, v = .slice (some ⟨g, 0, none⟩) n cap ∧ base ≤ g ∧ g < w.heap.size := by
  rcases h.2 with ⟨_, h2⟩ | ⟨g', cap', cur, h1, h2, h3, _⟩
  · omega
  · exact ⟨_, _, by rw [h1, hn], h2, (Array.getElem?_eq_some_iff.1 h3).1⟩
theorem run_word {c b : Nat} (hc : c < 3) (hb : b < 2 ^ mnN c) : ∃ y : Nat, wordI 1 c 0 0 b = (y : Int) ∧ okN y = true ∧ kN y = 1 ∧ cN y = c ∧ bN y = b := by
  have hb2 : (c = 0 ∧ b < 256) ∨ (c = 1 ∧ b < 16) ∨ (c = 2 ∧ b < 4) := by
    have : c = 0 ∨ c = 1 ∨ c = 2 := by omega
    rcases this with rfl | rfl | rfl
    · exact .inl ⟨rfl, hb⟩
    · exact .inr (.inl ⟨rfl, hb⟩)
    · exact .inr (.inr ⟨rfl, hb⟩)
  have hr := run_right (c : Int) (b : Int) (by omega)
  obtain ⟨k0, k1, c0, c1, l0, l1, m0, m1, b1⟩ := right_bd hr (by omega)
  obtain ⟨g0, g1, g2, g3, g4, x0, x1⟩ := word_parts 1 (c : Int) 0 0 (b : Int) k0 k1 c0 c1 l0 l1 m0 m1 (by omega) b1
  obtain ⟨x, hx, ho, hk, _⟩ := okN_word hr (by omega)
  obtain ⟨q0, q1, q2, q3, q4⟩ := gN x
  rw [hx] at g1 g4
  exact ⟨x, hx, ho, by omega, by omega, by omega⟩
theorem not_clr : ∀ b : Nat, b < 256 → ∀ k : Nat, k < 8 → b &&& (18446744073709551615 - 2 ^ k) = clrN b (2 ^ k) := by decide +kernel
theorem live_split : ∀ c : Nat, c < 3 → ∀ b : Nat, b < 256 → ∀ k : Nat, k < 8 → k < mnN c →
    liveL (b ||| 2 ^ k) (mnN c) = (liveL b (mnN c)).filter (fun j => decide (j < k)) ++ k :: (liveL b (mnN c)).filter (fun j => decide (k < j)) ∧
    liveL (clrN b (2 ^ k)) (mnN c) = (liveL b (mnN c)).filter (fun j => decide (j < k)) ++ (liveL b (mnN c)).filter (fun j => decide (k < j)) := by decide +kernel
structure OneOk (t : List Nat) (i k x1 x0 : Nat) (y : Bl) (A B : List Bl) (p z : Nat) : Prop where
  lenA : A.length = p + 1 + z
  lenB : B.length = p + z
  low : ∀ j, j < p → A.getD j default = B.getD j default ∧ A.getD j default ≠ y
  at_ : A.getD p default = y
  high : ∀ j, p < j → j < p + 1 + z → A.getD j default = B.getD (j - 1) default ∧ A.getD j default ≠ y
theorem one_of {X Z : List Bl} {y : Bl} {t : List Nat} {i k x1 x0 : Nat} (hX : y ∉ X) (hZ : y ∉ Z) : OneOk t i k x1 x0 y (X ++ y :: Z) (X ++ Z) X.length Z.length := by
  refine ⟨by simp; omega, by simp, fun j hj => ?_, ?_, fun j h1 h2 => ?_⟩
  · have e1 : (X ++ y :: Z).getD j default = X.getD j default := by
      simp only [List.getD_eq_getElem?_getD]; rw [List.getElem?_append_left hj]
    have e2 : (X ++ Z).getD j default = X.getD j default := by
      simp only [List.getD_eq_getElem?_getD]; rw [List.getElem?_append_left hj]
    refine ⟨by rw [e1, e2], fun q => hX ?_⟩
    rw [← q, e1, List.getD_eq_getElem?_getD, List.getElem?_eq_getElem hj]; exact List.getElem_mem hj
  · simp only [List.getD_eq_getElem?_getD]; rw [List.getElem?_append_right (Nat.le_refl _), Nat.sub_self]; rfl
  · have e1 : (X ++ y :: Z).getD j default = Z.getD (j - 1 - X.length) default := by
      simp only [List.getD_eq_getElem?_getD]
      rw [List.getElem?_append_right (by omega), show j - X.length = (j - 1 - X.length) + 1 by omega, List.getElem?_cons_succ]
    have e2 : (X ++ Z).getD (j - 1) default = Z.getD (j - 1 - X.length) default := by
      simp only [List.getD_eq_getElem?_getD]; rw [List.getElem?_append_right (by omega)]
    refine ⟨by rw [e1, e2], fun q => hZ ?_⟩
    rw [← q, e1, List.getD_eq_getElem?_getD, List.getElem?_eq_getElem (show j - 1 - X.length < Z.length by omega)]; exact List.getElem_mem _
theorem set_split {t : List Nat} {i x : Nat} (hi : i < t.length) : t.set i x = t.take i ++ x :: t.drop (i + 1) := by
  rw [List.set_eq_take_append_cons_drop, if_pos hi]
theorem set_ok {t : List Nat} {i x : Nat} (hok : t.all okN = true) (hx : okN x = true) : (t.set i x).all okN = true := by
  rw [List.all_eq_true] at hok ⊢
  intro y hy
  rcases List.mem_or_eq_of_mem_set hy with h | rfl
  · exact hok y h
  · exact hx
theorem blks_set {t : List Nat} {i x : Nat} (hok : t.all okN = true) (hi : i < t.length) (hx : okN x = true) : blksT (t.set i x) = blksFrom 0 (t.take i) ++ (blksAt i x ++ blksFrom (i + 1) (t.drop (i + 1))) := by
  unfold blksT
  rw [if_pos (set_ok hok hx), set_split hi, blksFrom_app, List.length_take, Nat.min_eq_left (by omega), Nat.zero_add]
  rfl
theorem one_split {t : List Nat} {i k x1 x0 c b : Nat} (hok : t.all okN = true) (hi : i < t.length) (hc : c < 3) (hb : b < 256) (hk : k < mnN c)
    (o1 : okN x1 = true) (k1 : kN x1 = 1) (c1 : cN x1 = c) (b1 : bN x1 = b ||| 2 ^ k) (o0 : okN x0 = true) (k0 : kN x0 = 1) (c0 : cN x0 = c) (b0 : bN x0 = clrN b (2 ^ k)) :
    ∃ p z, OneOk t i k x1 x0 (i, k, blN c) (blksT (t.set i x1)) (blksT (t.set i x0)) p z := by
  have hk8 : k < 8 := Nat.lt_of_lt_of_le hk (mnN_le c)
  obtain ⟨s1, s2⟩ := live_split c hc b hb k hk8 hk
  have e1 : blksAt i x1 = (((liveL b (mnN c)).filter (fun j => decide (j < k))).map fun j => (i, j, blN c)) ++ (i, k, blN c) :: (((liveL b (mnN c)).filter (fun j => decide (k < j))).map fun j => (i, j, blN c)) := by
    unfold blksAt; rw [if_pos k1, c1, b1, s1, List.map_append, List.map_cons]
  have e0 : blksAt i x0 = (((liveL b (mnN c)).filter (fun j => decide (j < k))).map fun j => (i, j, blN c)) ++ (((liveL b (mnN c)).filter (fun j => decide (k < j))).map fun j => (i, j, blN c)) := by
    unfold blksAt; rw [if_pos k0, c0, b0, s2, List.map_append]
  have f1 := blks_set hok hi o1
  have f0 := blks_set hok hi o0
  rw [e1] at f1
  rw [e0] at f0
  refine ⟨(blksFrom 0 (t.take i) ++ ((liveL b (mnN c)).filter (fun j => decide (j < k))).map fun j => (i, j, blN c)).length, ((((liveL b (mnN c)).filter (fun j => decide (k < j))).map fun j => (i, j, blN c)) ++ blksFrom (i + 1) (t.drop (i + 1))).length, ?_⟩
  have g1 : blksT (t.set i x1) = (blksFrom 0 (t.take i) ++ ((liveL b (mnN c)).filter (fun j => decide (j < k))).map fun j => (i, j, blN c)) ++ (i, k, blN c) :: ((((liveL b (mnN c)).filter (fun j => decide (k < j))).map fun j => (i, j, blN c)) ++ blksFrom (i + 1) (t.drop (i + 1))) := by
    rw [f1]; simp only [List.append_assoc, List.cons_append]
  have g0 : blksT (t.set i x0) = (blksFrom 0 (t.take i) ++ ((liveL b (mnN c)).filter (fun j => decide (j < k))).map fun j => (i, j, blN c)) ++ ((((liveL b (mnN c)).filter (fun j => decide (k < j))).map fun j => (i, j, blN c)) ++ blksFrom (i + 1) (t.drop (i + 1))) := by
    rw [f0]; simp only [List.append_assoc]
  rw [g1, g0]
  refine one_of (fun h => ?_) (fun h => ?_)
  · rcases List.mem_append.1 h with h | h
    · have := (blksFrom_in 0 _ _ h).2.1
      rw [List.length_take] at this; simp only [] at this; omega
    · obtain ⟨j, hj, he⟩ := List.mem_map.1 h
      have := of_decide_eq_true (List.mem_filter.1 hj).2
      simp only [Prod.mk.injEq] at he; omega
  · rcases List.mem_append.1 h with h | h
    · obtain ⟨j, hj, he⟩ := List.mem_map.1 h
      have := of_decide_eq_true (List.mem_filter.1 hj).2
      simp only [Prod.mk.injEq] at he; omega
    · have := (blksFrom_in (i + 1) _ _ h).1
      simp only [] at this; omega
end Go.Proofs.YtnjifmecaeagaaaDoor
