/-
  Part of the proof of SoundDrops.
-/
import Derived.Test.YtdmmbnnejbmdpaaGreatDoorVt91
import Derived.Test.YtdmmbnnejbmdpaaGreatDoorVt92
import Derived.Test.YtdmmbnnejbmdpaaGreatDoorVt93
import Derived.Test.YtdmmbnnejbmdpaaGreatDoorVt94
import Derived.Test.YtdmmbnnejbmdpaaGreatDoorVt95
import Derived.Test.YtdmmbnnejbmdpaaGreatDoorVt96
import Derived.Test.YtdmmbnnejbmdpaaGreatDoorVt97
import Derived.Test.YtdmmbnnejbmdpaaGreatDoorVt98
import Derived.Test.YtdmmbnnejbmdpaaGreatDoorVt99
import Derived.Test.YtdmmbnnejbmdpaaGreatDoorVt910
import Derived.Test.YtdmmbnnejbmdpaaGreatDoorVt911
import Derived.Test.YtdmmbnnejbmdpaaGreatDoorVt912
import Derived.Test.YtdmmbnnejbmdpaaGreatDoorVt913
import Derived.Test.YtdmmbnnejbmdpaaGreatDoorVt914
import Derived.Test.YtdmmbnnejbmdpaaGreatDoorVt915
import Derived.Test.YtdmmbnnejbmdpaaGreatDoorVt916
import Derived.Test.YtdmmbnnejbmdpaaGreatDoorVt917
import Derived.Test.YtdmmbnnejbmdpaaGreatDoorVt918
import Derived.Test.YtdmmbnnejbmdpaaGreatDoorVt919
import Derived.Test.YtdmmbnnejbmdpaaGreatDoorVt920
import Derived.Test.YtdmmbnnejbmdpaaGreatDoorVt921
import Derived.Test.YtdmmbnnejbmdpaaGreatDoorVt922
import Derived.Test.YtdmmbnnejbmdpaaGreatDoorVt923
import Derived.Test.YtdmmbnnejbmdpaaGreatDoorVt924
import Derived.Test.YtdmmbnnejbmdpaaGreatDoorVt925
import Derived.Test.YtdmmbnnejbmdpaaGreatDoorVt926
import Derived.Test.YtdmmbnnejbmdpaaGreatDoorVt927
import Derived.Test.YtdmmbnnejbmdpaaGreatDoorVt928
import Derived.Test.YtdmmbnnejbmdpaaGreatDoorVt929
import Derived.Test.YtdmmbnnejbmdpaaGreatDoorVt930
import Derived.Test.YtdmmbnnejbmdpaaGreatDoorVt931
import Derived.Test.YtdmmbnnejbmdpaaGreatDoorVt932
import Derived.Test.YtdmmbnnejbmdpaaGreatDoorVt933
import Derived.Test.YtdmmbnnejbmdpaaGreatDoorVt934
import Derived.Test.YtdmmbnnejbmdpaaGreatDoorVt935
import Derived.Test.YtdmmbnnejbmdpaaGreatDoorVt936
import Derived.Test.YtdmmbnnejbmdpaaGreatDoorVt937
import Derived.Test.YtdmmbnnejbmdpaaGreatDoorVt938
import Derived.Test.YtdmmbnnejbmdpaaGreatDoorVt939
import Derived.Test.YtdmmbnnejbmdpaaGreatDoorVt940
import Derived.Test.YtdmmbnnejbmdpaaGreatDoorVt941
import Derived.Test.YtdmmbnnejbmdpaaGreatDoorVt942
import Derived.Test.YtdmmbnnejbmdpaaGreatDoorVt943
import Derived.Test.YtdmmbnnejbmdpaaGreatDoorVt944
import Derived.Test.YtdmmbnnejbmdpaaGreatDoorVt945
import Derived.Test.YtdmmbnnejbmdpaaGreatDoorVt946
import Derived.Test.YtdmmbnnejbmdpaaGreatDoorVt947
import Derived.Test.YtdmmbnnejbmdpaaGreatDoorVt949
import Derived.Test.YtdmmbnnejbmdpaaGreatDoorVt950
section
set_option linter.unusedVariables false
set_option linter.unusedSimpArgs false
namespace Go.Proofs.YtdmmbnnejbmdpaaGreatDoor
open Go.Lib Go.RowKit Go.ChangeShapes Go.WideShapes Go.Deep Go.Shelf
theorem runT_same {T T' : List Nat} (hl : T'.length = T.length) (h : ∀ p, p < T.length → kN (T'.getD p 0) = kN (T.getD p 0) ∧ mN (T'.getD p 0) = mN (T.getD p 0)) : ∀ k, k ≤ T.length → runT T' k = runT T k
  | 0, _ => rfl
  | k + 1, hk => by
    have e : stepT (T'.getD k 0) = stepT (T.getD k 0) := by
      funext r
      unfold stepT
      rw [(h k (by omega)).1, (h k (by omega)).2]
    rw [runT, runT, runT_same hl h k (by omega), e]
theorem blks_filter {f : Bl → Bool} : ∀ (o : Nat) (T T' : List Nat), T'.length = T.length → (∀ p, p < T.length → blksAt (o + p) (T'.getD p 0) = (blksAt (o + p) (T.getD p 0)).filter f) → blksFrom o T' = (blksFrom o T).filter f
  | o, [], [], _, _ => rfl
  | o, x :: T, y :: T', hl, h => by
    rw [blksFrom, blksFrom, List.filter_append, blks_filter (o + 1) T T' (by simpa using hl) (fun p hp => by
      have := h (p + 1) (by simp; omega)
      rw [show o + (p + 1) = o + 1 + p from by omega] at this
      simpa using this)]
    have := h 0 (by simp)
    simp only [Nat.add_zero, List.getD_cons_zero] at this
    rw [this]
  | o, [], y :: T', hl, _ => by simp at hl
  | o, x :: T, [], hl, _ => by simp at hl
theorem blksAt_fst {i x : Nat} {b : Bl} (h : b ∈ blksAt i x) : b.1 = i := by
  unfold blksAt at h
  split at h
  · obtain ⟨j, hj, rfl⟩ := List.mem_map.1 h; rfl
  · split at h
    · rw [List.mem_singleton] at h; subst h; rfl
    · cases h
theorem blksAt_keep {i x : Nat} {b : Bl} (h : ¬ i = b.1) : (blksAt i x).filter (fun y => decide (¬ y = b)) = blksAt i x := by
  refine List.filter_eq_self.2 (fun y hy => decide_eq_true (fun e => h ?_))
  rw [← e, blksAt_fst hy]
set_option maxRecDepth 10000 in
theorem clr8 : ∀ b, b < 256 → ∀ j, j < 8 → b.testBit j = true → b &&& (1099511627775 - 2 ^ j) = b - 2 ^ j ∧ 2 ^ j ≤ b := by decide +kernel
set_option maxRecDepth 10000 in
theorem live8 : ∀ b, b < 256 → ∀ j, j < 8 → b.testBit j = true → ∀ i, i < 8 → (b - 2 ^ j).testBit i = (b.testBit i && decide (¬ i = j)) := by decide +kernel
set_option maxRecDepth 10000 in
theorem mask8 : ∀ j, j < 8 → (18446744073709551615 - 16777216 * 2 ^ j) % 2 ^ 24 = 2 ^ 24 - 1 ∧ (18446744073709551615 - 16777216 * 2 ^ j) / 2 ^ 24 = 1099511627775 - 2 ^ j := by decide +kernel
/-- a run's word without a block's bit -/
def clrW (x j : Nat) : Nat := x &&& (18446744073709551615 - 16777216 * 2 ^ j)
theorem clrW_eq {x j : Nat} (hx : x < 4294967296) (hj : j < 8) (hb : (bN x).testBit j = true) : clrW x j = x % 16777216 + 16777216 * (bN x - 2 ^ j) ∧ 2 ^ j ≤ bN x := by
  have hbN : bN x = x / 16777216 := by unfold bN; omega
  obtain ⟨m1, m2⟩ := mask8 j hj
  obtain ⟨c1, c2⟩ := clr8 (bN x) (by unfold bN; omega) j hj hb
  refine ⟨?_, c2⟩
  have e1 : clrW x j % 2 ^ 24 = x % 2 ^ 24 := by
    unfold clrW
    rw [Nat.and_mod_two_pow, m1, Nat.and_two_pow_sub_one_eq_mod, Nat.mod_mod]
  have e2 : clrW x j / 2 ^ 24 = bN x - 2 ^ j := by
    unfold clrW
    rw [Nat.and_div_two_pow, m2, show x / 2 ^ 24 = bN x from by rw [hbN], c1]
  have e3 := Nat.div_add_mod (clrW x j) (2 ^ 24)
  rw [e1, e2] at e3
  omega
theorem clrW_ok {x j : Nat} (hx : okN x = true) (hk : kN x = 1) (hj : j < mnN (cN x)) (hb : (bN x).testBit j = true) :
    okN (clrW x j) = true ∧ kN (clrW x j) = kN x ∧ mN (clrW x j) = mN x ∧ ∀ c, blksAt c (clrW x j) = (blksAt c x).filter (fun y => decide (¬ y = (c, j, blN (cN x)))) := by
  have hr := okN_t hx
  have hj8 : j < 8 := Nat.lt_of_lt_of_le hj (mnN_le _)
  obtain ⟨e, hle⟩ := clrW_eq hr.1 hj8 hb
  have hbl := live8 (bN x) (by unfold bN; omega) j hj8 hb
  obtain ⟨d, hd⟩ : ∃ d, bN x - 2 ^ j = d := ⟨_, rfl⟩
  rw [hd] at e hbl
  have hdb : d ≤ bN x := by rw [← hd]; exact Nat.sub_le _ _
  have hx32 := hr.1
  have f1 : kN (clrW x j) = kN x := by rw [e]; unfold kN; omega
  have f2 : cN (clrW x j) = cN x := by rw [e]; unfold cN; omega
  have f3 : lnN (clrW x j) = lnN x := by rw [e]; unfold lnN; omega
  have f4 : mN (clrW x j) = mN x := by rw [e]; unfold mN; omega
  have f5 : bN (clrW x j) = d := by
    have : bN x < 256 := by unfold bN; omega
    rw [e]
    unfold bN at this hdb ⊢
    omega
  have f6 : clrW x j < 4294967296 := by
    have : bN x < 256 := by unfold bN; omega
    rw [e]; omega
  refine ⟨?_, f1, f4, fun c => ?_⟩
  · unfold okN
    refine decide_eq_true ?_
    unfold RightN at hr ⊢
    rw [f1, f2, f3, f4, f5]
    refine ⟨f6, ?_⟩
    omega
  · unfold blksAt
    rw [f1, f2, f5, if_pos hk, if_pos hk, List.filter_map]
    congr 1
    unfold liveL
    rw [List.filter_filter]
    refine List.filter_congr (fun i hi => ?_)
    have hi8 : i < 8 := Nat.lt_of_lt_of_le (List.mem_range.1 hi) (mnN_le _)
    rw [hbl i hi8, Bool.and_comm]
    congr 1
    show decide (¬ i = j) = decide (¬ (c, i, blN (cN x)) = (c, j, blN (cN x)))
    rw [decide_eq_decide]
    simp
theorem calm_at {T : List Nat} (h : calmT T = true) {p : Nat} (hp : p < T.length) : ¬ kN (T.getD p 0) = 4 := by
  have := List.all_eq_true.1 h (T.getD p 0) (by rw [List.getD_eq_getElem?_getD, List.getElem?_eq_getElem hp]; exact List.getElem_mem hp)
  rw [Bool.not_eq_true'] at this
  exact of_decide_eq_false this
theorem calm_of {T : List Nat} (h : ∀ p, p < T.length → ¬ kN (T.getD p 0) = 4) : calmT T = true := by
  unfold calmT
  refine List.all_eq_true.2 (fun x hx => ?_)
  obtain ⟨p, hp, rfl⟩ := List.getElem_of_mem hx
  have := h p hp
  rw [List.getD_eq_getElem?_getD, List.getElem?_eq_getElem hp] at this
  rw [Bool.not_eq_true']
  exact decide_eq_false this
theorem ok_all {T : List Nat} (h : ∀ p, p < T.length → okN (T.getD p 0) = true) : T.all okN = true := by
  refine List.all_eq_true.2 (fun x hx => ?_)
  obtain ⟨p, hp, rfl⟩ := List.getElem_of_mem hx
  have := h p hp
  rw [List.getD_eq_getElem?_getD, List.getElem?_eq_getElem hp] at this
  exact this
theorem blk_from {T : List Nat} {b : Bl} (h : b ∈ blksT T) : T.all okN = true ∧ b.1 < T.length ∧ b ∈ blksAt b.1 (T.getD b.1 0) := by
  unfold blksT at h
  split at h
  · rename_i ho
    obtain ⟨i, hi, hb⟩ := blFrom_mem 0 T h
    rw [Nat.zero_add] at hb
    have := blksAt_fst hb
    subst this
    exact ⟨ho, hi, hb⟩
  · cases h
/-- a table without a block of a run -/
theorem drop_run {T : List Nat} {b : Bl} (hr : rightT T = true) (hc : calmT T = true) (hb : b ∈ blksT T) (h32 : b.2.2 < 32) :
    T.getD b.1 0 < 4294967296 ∧ b.2.1 < 8 ∧ rightT (T.set b.1 (clrW (T.getD b.1 0) b.2.1)) = true ∧ calmT (T.set b.1 (clrW (T.getD b.1 0) b.2.1)) = true ∧ blksT (T.set b.1 (clrW (T.getD b.1 0) b.2.1)) = (blksT T).filter (fun y => decide (¬ y = b)) := by
  obtain ⟨ho, hi, hm⟩ := blk_from hb
  have hx := all_at ho hi
  have hR := okN_t hx
  obtain ⟨c, j, u⟩ := b
  simp only [] at hi hm hx hR h32 ⊢
  have hkj : kN (T.getD c 0) = 1 ∧ j ∈ liveL (bN (T.getD c 0)) (mnN (cN (T.getD c 0))) ∧ u = blN (cN (T.getD c 0)) := by
    unfold blksAt at hm
    split at hm
    · rename_i hk
      obtain ⟨j2, hj2, e⟩ := List.mem_map.1 hm
      simp only [Prod.mk.injEq] at e
      obtain ⟨-, rfl, rfl⟩ := e
      exact ⟨hk, hj2, rfl⟩
    · split at hm
      · rename_i hk
        rw [List.mem_singleton] at hm
        simp only [Prod.mk.injEq] at hm
        unfold RightN at hR
        omega
      · cases hm
  obtain ⟨hk, hj, hu⟩ := hkj
  have hjm := live_in hj
  have hj8 : j < 8 := Nat.lt_of_lt_of_le hjm (mnN_le _)
  have hbit : (bN (T.getD c 0)).testBit j = true := by unfold liveL at hj; exact (List.mem_filter.1 hj).2
  obtain ⟨k1, k2, k3, k4⟩ := clrW_ok hx hk hjm hbit
  rw [← hu] at k4
  generalize clrW (T.getD c 0) j = y at *
  have hget : ∀ p, (T.set c y).getD p 0 = if c = p ∧ p < T.length then y else T.getD p 0 := fun p => getD_setS T c p y
  have hsame : ∀ p, p < T.length → kN ((T.set c y).getD p 0) = kN (T.getD p 0) ∧ mN ((T.set c y).getD p 0) = mN (T.getD p 0) := fun p hp => by
    rw [hget]
    split
    · rename_i q; rw [← q.1]; exact ⟨k2, k3⟩
    · exact ⟨rfl, rfl⟩
  have hok : (T.set c y).all okN = true := ok_all (fun p hp => by
    rw [List.length_set] at hp
    rw [hget]
    split
    · exact k1
    · exact all_at ho hp)
  refine ⟨hR.1, hj8, rightT_mk hok ?_, ?_, ?_⟩
  · rw [List.length_set, runT_same List.length_set hsame _ (Nat.le_refl _)]
    exact (rightT_t hr).2
  · refine calm_of (fun p hp => ?_)
    rw [List.length_set] at hp
    rw [(hsame p hp).1]
    exact calm_at hc hp
  · unfold blksT
    rw [if_pos hok, if_pos ho]
    refine blks_filter 0 T _ List.length_set (fun p hp => ?_)
    rw [Nat.zero_add, hget]
    by_cases e : c = p
    · subst e
      rw [if_pos ⟨rfl, hp⟩]
      exact k4 c
    · rw [if_neg (fun q => e q.1)]
      exact (blksAt_keep (fun q => e q.symm)).symm
/-- the first k words behind a place are 0 -/
def zs (T : List Nat) (c : Nat) : Nat → List Nat
  | 0 => T
  | k + 1 => (zs T c k).set (c + k) 0
theorem zs_len (T : List Nat) (c : Nat) : ∀ k, (zs T c k).length = T.length
  | 0 => rfl
  | k + 1 => by rw [zs, List.length_set, zs_len T c k]
theorem zs_at (T : List Nat) (c p : Nat) : ∀ k, (zs T c k).getD p 0 = if c ≤ p ∧ p < c + k then 0 else T.getD p 0
  | 0 => by rw [zs, if_neg (by omega)]
  | k + 1 => by
    rw [zs, getD_setS, zs_len, zs_at T c p k]
    by_cases e : c + k = p
    · subst e
      by_cases h : c + k < T.length
      · rw [if_pos ⟨rfl, h⟩, if_pos (by omega)]
      · rw [if_neg (fun q => h q.2), if_neg (by omega), if_pos (by omega), List.getD_eq_getElem?_getD, List.getElem?_eq_none (by omega)]
        rfl
    · rw [if_neg (fun q => e q.1)]
      by_cases h : c ≤ p ∧ p < c + k
      · rw [if_pos h, if_pos (by omega)]
      · rw [if_neg h, if_neg (by omega)]
theorem tail_iff (t : List Nat) (n i : Nat) : tailB t n i = true ↔ ∃ k, k < n ∧ kN (t.getD k 0) = 2 ∧ i < k + mN (t.getD k 0) := by
  unfold tailB
  rw [List.any_eq_true]
  constructor
  · rintro ⟨k, hk, h⟩
    rw [Bool.and_eq_true, decide_eq_true_eq, decide_eq_true_eq] at h
    exact ⟨k, List.mem_range.1 hk, h.1, h.2⟩
  · rintro ⟨k, hk, h1, h2⟩
    exact ⟨k, List.mem_range.2 hk, by rw [Bool.and_eq_true, decide_eq_true_eq, decide_eq_true_eq]; exact ⟨h1, h2⟩⟩
/-- a table without a huge block -/
theorem drop_huge {T : List Nat} {b : Bl} (hr : rightT T = true) (hc : calmT T = true) (hb : b ∈ blksT T) (h32 : 32 ≤ b.2.2) :
    b.1 + b.2.2 / 32 ≤ T.length ∧ rightT (zs T b.1 (b.2.2 / 32)) = true ∧ calmT (zs T b.1 (b.2.2 / 32)) = true ∧ blksT (zs T b.1 (b.2.2 / 32)) = (blksT T).filter (fun y => decide (¬ y = b)) := by
  obtain ⟨ho, hi, hm⟩ := blk_from hb
  have hx := all_at ho hi
  have hR := okN_t hx
  obtain ⟨c, j, u⟩ := b
  simp only [] at hi hm hx hR h32 ⊢
  have hkj : kN (T.getD c 0) = 2 ∧ j = 0 ∧ u = mN (T.getD c 0) * 32 ∧ 1 ≤ mN (T.getD c 0) := by
    unfold blksAt at hm
    split at hm
    · rename_i hk
      obtain ⟨j2, hj2, e⟩ := List.mem_map.1 hm
      simp only [Prod.mk.injEq] at e
      obtain ⟨-, rfl, rfl⟩ := e
      have := live_in hj2
      unfold RightN at hR
      have h3 : cN (T.getD c 0) = 0 ∨ cN (T.getD c 0) = 1 ∨ cN (T.getD c 0) = 2 := by omega
      unfold blN at h32
      rcases h3 with h3 | h3 | h3
      · rw [if_pos h3] at h32; omega
      · rw [if_neg (by omega), if_pos h3] at h32; omega
      · rw [if_neg (by omega), if_neg (by omega), if_pos h3] at h32; omega
    · split at hm
      · rename_i hk
        rw [List.mem_singleton] at hm
        simp only [Prod.mk.injEq] at hm
        unfold RightN at hR
        exact ⟨hk, hm.2.1, hm.2.2, by omega⟩
      · cases hm
  obtain ⟨hk, hj, hu, hm1⟩ := hkj
  have hend := right_end hr hi hk
  obtain ⟨m, hmm⟩ : ∃ m, mN (T.getD c 0) = m := ⟨_, rfl⟩
  rw [hmm] at hu hm1 hend
  have hum : u / 32 = m := by omega
  rw [hum]
  subst hj
  have hrr := hr
  rw [← right_same] at hrr
  unfold refRightB at hrr
  rw [Bool.and_eq_true] at hrr
  have hat : ∀ p, p < T.length → (tailB T p p = decide (kN (T.getD p 0) = 3)) ∧ ¬ (kN (T.getD p 0) = 2 ∧ T.length < p + mN (T.getD p 0)) := fun p hp => by
    have h2 := List.all_eq_true.1 hrr.2 p (List.mem_range.2 hp)
    rw [Bool.and_eq_true, beq_iff_eq] at h2
    refine ⟨h2.1, fun q => ?_⟩
    have h3 := h2.2
    rw [decide_eq_true q.1, decide_eq_true q.2] at h3
    cases h3
  have htail : ∀ p, c < p → p < c + m → kN (T.getD p 0) = 3 := fun p h1 h2 => by
    have h3 := (hat p (by omega)).1
    have h4 : tailB T p p = true := (tail_iff T p p).2 ⟨c, h1, hk, by rw [hmm]; exact h2⟩
    rw [h4] at h3
    exact of_decide_eq_true h3.symm
  have hlen := zs_len T c m
  have hget := fun p => zs_at T c p m
  generalize zs T c m = T' at *
  have hok : T'.all okN = true := ok_all (fun p hp => by
    rw [hlen] at hp
    rw [hget]
    split
    · decide
    · exact all_at ho hp)
  have hno : ∀ k, k < T.length → k < c → kN (T.getD k 0) = 2 → k + mN (T.getD k 0) ≤ c := fun k h1 h2 h3 => by
    false_or_by_contra
    rename_i q
    have h4 : tailB T c c = true := (tail_iff T c c).2 ⟨k, h2, h3, by omega⟩
    have h5 := (hat c hi).1
    rw [h4] at h5
    have := of_decide_eq_true h5.symm
    omega
  refine ⟨hend, ?_, ?_, ?_⟩
  · rw [← right_same]
    unfold refRightB
    rw [hok, Bool.true_and, hlen]
    unfold refRightN
    refine List.all_eq_true.2 (fun i hi9 => ?_)
    have hi2 := List.mem_range.1 hi9
    obtain ⟨a1, a2⟩ := hat i hi2
    rw [hlen, Bool.and_eq_true, beq_iff_eq]
    by_cases hin : c ≤ i ∧ i < c + m
    · have e0 : T'.getD i 0 = 0 := by rw [hget, if_pos hin]
      rw [e0]
      refine ⟨?_, by rw [decide_eq_false (by decide)]; rfl⟩
      rw [decide_eq_false (by decide)]
      cases ht : tailB T' i i with
      | false => rfl
      | true =>
        exfalso
        obtain ⟨k, q1, q2, q3⟩ := (tail_iff T' i i).1 ht
        rw [hget] at q2 q3
        by_cases hkc : c ≤ k ∧ k < c + m
        · rw [if_pos hkc] at q2; exact absurd q2 (by decide)
        · rw [if_neg hkc] at q2 q3
          have := hno k (by omega) (by omega) q2
          omega
    · have e0 : T'.getD i 0 = T.getD i 0 := by rw [hget, if_neg hin]
      rw [e0]
      refine ⟨?_, ?_⟩
      · rw [← a1, Bool.eq_iff_iff, tail_iff, tail_iff]
        constructor
        · rintro ⟨k, q1, q2, q3⟩
          rw [hget] at q2 q3
          by_cases hkc : c ≤ k ∧ k < c + m
          · rw [if_pos hkc] at q2; exact absurd q2 (by decide)
          · rw [if_neg hkc] at q2 q3
            exact ⟨k, q1, q2, q3⟩
        · rintro ⟨k, q1, q2, q3⟩
          by_cases hkc : c ≤ k ∧ k < c + m
          · exfalso
            by_cases e : k = c
            · subst e; omega
            · have := htail k (by omega) hkc.2
              omega
          · exact ⟨k, q1, by rw [hget, if_neg hkc]; exact q2, by rw [hget, if_neg hkc]; exact q3⟩
      · rw [Bool.not_eq_true', Bool.and_eq_false_iff]
        by_cases h2 : kN (T.getD i 0) = 2
        · right; exact decide_eq_false (fun q => a2 ⟨h2, q⟩)
        · left; exact decide_eq_false h2
  · refine calm_of (fun p hp => ?_)
    rw [hlen] at hp
    rw [hget]
    split
    · decide
    · exact calm_at hc hp
  · unfold blksT
    rw [if_pos hok, if_pos ho]
    refine blks_filter 0 T _ hlen (fun p hp => ?_)
    rw [Nat.zero_add, hget]
    by_cases hin : c ≤ p ∧ p < c + m
    · rw [if_pos hin]
      by_cases e : c = p
      · subst e
        unfold blksAt
        rw [if_neg (by decide), if_neg (by decide), if_neg (by omega), if_pos hk, hmm, ← hu]
        simp
      · have h3 := htail p (by omega) hin.2
        unfold blksAt
        rw [if_neg (by decide), if_neg (by decide), if_neg (by omega), if_neg (by omega)]
        rfl
    · rw [if_neg hin]
      exact (blksAt_keep (show ¬ p = c by omega)).symm
/-- without an element: all others, by their places -/
theorem filter_at {R : List Bl} (hn : R.Pairwise (fun a b => ¬ a = b)) {i : Nat} (hi : i < R.length) : R.filter (fun y => decide (¬ y = R.getD i default)) = R.take i ++ R.drop (i + 1) := by
  have e0 : R.getD i default = R[i] := by rw [List.getD_eq_getElem?_getD, List.getElem?_eq_getElem hi]; rfl
  have e : R = R.take i ++ R[i] :: R.drop (i + 1) := by rw [← List.drop_eq_getElem_cons hi, List.take_append_drop]
  have h1 := hn
  rw [e, List.pairwise_append, List.pairwise_cons] at h1
  obtain ⟨-, ⟨h3, -⟩, h4⟩ := h1
  rw [e0]
  generalize R[i] = x at e h3 h4
  conv => lhs; rw [e]
  rw [List.filter_append, List.filter_cons_of_neg (by simp), List.filter_eq_self.2 (fun y hy => decide_eq_true (h4 y hy _ (List.mem_cons_self ..))), List.filter_eq_self.2 (fun y hy => decide_eq_true (show ¬ y = x from fun q => h3 y hy q.symm))]
theorem asc_ne {R : List Bl} (h : R.Pairwise (fun a b => posB a + a.2.2 ≤ posB b)) (h4 : ∀ b ∈ R, 4 ≤ b.2.2) : R.Pairwise (fun a b => ¬ a = b) :=
  List.Pairwise.imp_of_mem (fun {a b} ha hb hab e => by subst e; have := h4 a ha; omega) h
theorem distR_pw {l : List Nat} (h : l.Pairwise (fun a b => ¬ a = b)) : distR l l.length = true :=
  distR_of (fun i hi j hj => by
    have := List.pairwise_iff_getElem.1 h j i (by omega) hi hj
    rw [List.getD_eq_getElem?_getD, List.getD_eq_getElem?_getD, List.getElem?_eq_getElem hi, List.getElem?_eq_getElem (show j < l.length by omega)]
    exact this)
/-- a stock's pool without an object -/
theorem StkP.dropped {s : Sk} {B : List Nat} {N L G : Nat} {R : List Bl} (h : StkP s B N L G R) (hep : s.ep < 4294967296) {X : List Nat} {i : Nat} (hi : i < R.length) (hl : X.length = N)
    (hout : ∀ p, p < 10 + 73 * L ∨ 10 + 73 * L + G ≤ p → X.getD p 0 = B.getD p 0) (hr : rightT (tabW X L) = true) (hc : calmT (tabW X L) = true) (hbl : blI X L = R.take i ++ R.drop (i + 1)) :
    (B.getD 8 0 = plc N L (R.getD i default) → soundB X = false) ∧ (¬ B.getD 8 0 = plc N L (R.getD i default) → soundB X = true ∧ objL X = (objL B).take i ++ (objL B).drop (i + 1)) := by
  have hsnd := h.sound hep
  have hN := h.hN
  have h1 := h.l1
  have h2 := h.g1
  have hlen := h.len
  have hgn := h.gn
  have hg := h.g
  have e3 : X.getD 3 0 = L := by rw [hout 3 (by omega), h.w3]
  have e8 : X.take 8 = B.take 8 := ext_getD (by simp only [List.length_take, hl, hlen]) (fun p hp => by
    have hp8 : p < 8 := by rw [List.length_take] at hp; omega
    have := hout p (by omega)
    rw [List.getD_eq_getElem?_getD, List.getElem?_take_of_lt hp8, List.getD_eq_getElem?_getD, List.getElem?_take_of_lt hp8, ← List.getD_eq_getElem?_getD, ← List.getD_eq_getElem?_getD]
    exact this)
  have hok : sOk X = true := by
    have := h.ok
    unfold sOk at this ⊢
    rw [e3, hl, e8]
    rw [h.w3, hlen] at this
    exact this
  have hre : restN X L = true := restN_zero (fun k hk => by rw [hout _ (by omega)]; exact h.mks k hk)
  have hmem : ∀ b ∈ R.take i ++ R.drop (i + 1), b ∈ R := fun b hb => by
    rcases List.mem_append.1 hb with q | q
    · exact List.mem_of_mem_take q
    · exact List.mem_of_mem_drop q
  have hob : ∀ b ∈ R, objH X L b = objH B L b := fun b hb => by
    have hb3 := (h.bk b hb).2.2
    exact objH_same (by rw [hl, hlen]) (hout _ (.inr (by rw [hlen]; exact hb3))) (hout _ (.inr (by rw [hlen]; omega)))
  have hall : allO X L (R.take i ++ R.drop (i + 1)) = true := by
    have := h.objs.1
    unfold allO at this ⊢
    refine List.all_eq_true.2 (fun b hb => ?_)
    rw [hob b (hmem b hb)]
    exact List.all_eq_true.1 this b (hmem b hb)
  have hP : objsP X L = (objsP B L).take i ++ (objsP B L).drop (i + 1) := by
    have hPB : objsP B L = R.map (objE B L) := by unfold objsP; rw [h.bl, if_pos h.objs.1]
    unfold objsP at hPB ⊢
    rw [hbl, if_pos hall, hPB, ← List.map_take, ← List.map_drop, ← List.map_append]
    exact List.map_congr_left (fun b hb => by unfold objE; rw [hob b (hmem b hb)])
  have hsub : (objsP X L).Sublist (objsP B L) := by
    rw [hP, ← List.eraseIdx_eq_take_drop_succ]
    exact List.eraseIdx_sublist _ _
  have hserP : (serO (objsP B L)).Pairwise (fun a b => ¬ a = b) := by
    rw [h.obsP]
    unfold serO
    rw [List.map_map, List.pairwise_map]
    refine List.Pairwise.imp (fun {a b} hab => ?_) List.pairwise_lt_range
    show ¬ 4294967296 * s.ep + (a + 1) = 4294967296 * s.ep + (b + 1)
    omega
  have hdist : distR (serO (objsP X L)) (objsP X L).length = true := by
    have hs2 : (serO (objsP X L)).Sublist (serO (objsP B L)) := by unfold serO; exact List.Sublist.map (fun o : Ob => o.2.2.2) hsub
    have := distR_pw (hserP.sublist hs2)
    rw [show (serO (objsP X L)).length = (objsP X L).length from List.length_map ..] at this
    exact this
  have hs := hsnd
  unfold soundB at hs
  rw [h.w3] at hs
  simp only [Bool.and_eq_true] at hs
  obtain ⟨-, -, -, -, -, hepo, hroo⟩ := hs
  have hepoX : epoB X (objsP X L) = true := by
    unfold epoB at hepo ⊢
    rw [hout 9 (by omega)]
    rw [Bool.and_eq_true] at hepo ⊢
    exact ⟨hepo.1, List.all_eq_true.2 (fun o ho => List.all_eq_true.1 hepo.2 o (hsub.subset ho))⟩
  have hsX : soundB X = rootB X (objsP X L) := by
    unfold soundB
    rw [e3, hok, hre, hr, hc, hbl, hall, hdist, hepoX]
    simp
  have hx8 : X.getD 8 0 = B.getD 8 0 := hout 8 (by omega)
  have hplc : ∀ k, k < R.length → k ≠ i → plc N L (R.getD k default) ≠ plc N L (R.getD i default) := fun k hk hki => by
    rcases Nat.lt_or_gt_of_ne hki with q | q
    · have := h.far q hi
      have := (h.bk _ (h.mem hk)).2.1
      omega
    · have := h.far q hk
      have := (h.bk _ (h.mem hi)).2.1
      omega
  have hin : ∀ o, o ∈ objsP X L ↔ ∃ k, k < R.length ∧ k ≠ i ∧ o = obS s N L k (R.getD k default) := fun o => by
    rw [hP, ← List.eraseIdx_eq_take_drop_succ, List.mem_eraseIdx_iff_getElem]
    have hlP : (objsP B L).length = R.length := by rw [h.obsP]; simp
    have hgP : ∀ k (hk : k < (objsP B L).length), (objsP B L)[k] = obS s N L k (R.getD k default) := fun k hk => by
      have e : (objsP B L).getD k default = obS s N L k (R.getD k default) := by
        rw [h.obsP, List.getD_eq_getElem?_getD, List.getElem?_map, List.getElem?_range (by omega)]; rfl
      rw [← e, List.getD_eq_getElem?_getD, List.getElem?_eq_getElem hk]; rfl
    constructor
    · rintro ⟨k, hk, hki, rfl⟩
      exact ⟨k, by omega, hki, hgP k hk⟩
    · rintro ⟨k, hk, hki, rfl⟩
      exact ⟨k, by omega, hki, hgP k (by omega)⟩
  refine ⟨fun h8 => ?_, fun h8 => ?_⟩
  · rw [hsX]
    unfold rootB
    rw [hx8, h8]
    have hbi := (h.bk _ (h.mem hi)).2.2
    rw [decide_eq_false (by omega), Bool.false_or]
    refine List.any_eq_false.2 (fun o ho => ?_)
    obtain ⟨k, hk, hki, rfl⟩ := (hin o).1 ho
    simp only [decide_eq_true_eq]
    exact hplc k hk hki
  · have hsnd2 : soundB X = true := by
      rw [hsX]
      unfold rootB at hroo ⊢
      rw [hx8]
      rw [Bool.or_eq_true] at hroo ⊢
      rcases hroo with q | q
      · exact .inl q
      · right
        obtain ⟨o, ho, hq⟩ := List.any_eq_true.1 q
        refine List.any_eq_true.2 ⟨o, ?_, hq⟩
        rw [h.obsP] at ho
        obtain ⟨k, hk, rfl⟩ := List.mem_map.1 ho
        refine (hin _).2 ⟨k, List.mem_range.1 hk, fun e => ?_, rfl⟩
        subst e
        exact h8 (of_decide_eq_true hq).symm
    refine ⟨hsnd2, ?_⟩
    have hoX : objL X = (objsP X L).map (ojOf X) := by unfold objL; rw [if_pos hsnd2, e3]
    have hoB : objL B = (objsP B L).map (ojOf B) := by unfold objL; rw [if_pos hsnd, h.w3]
    rw [hoX, hoB, ← List.map_take, ← List.map_drop, ← List.map_append, ← hP]
    refine List.map_congr_left (fun o ho => ?_)
    obtain ⟨k, hk, hki, rfl⟩ := (hin o).1 ho
    have hbk := (h.bk _ (h.mem hk)).2.2
    unfold ojOf
    refine Prod.ext rfl ?_
    show (X.drop (plc N L (R.getD k default) + 2)).take (szS s k (R.getD k default).2.2) = (B.drop (plc N L (R.getD k default) + 2)).take (szS s k (R.getD k default).2.2)
    refine ext_getD (by simp only [List.length_take, List.length_drop, hl, hlen]) (fun a ha => ?_)
    rw [List.length_take] at ha
    have ha2 : a < szS s k (R.getD k default).2.2 := by omega
    rw [List.getD_eq_getElem?_getD, List.getElem?_take_of_lt ha2, List.getElem?_drop, ← List.getD_eq_getElem?_getD, List.getD_eq_getElem?_getD (l := List.take _ _), List.getElem?_take_of_lt ha2, List.getElem?_drop, ← List.getD_eq_getElem?_getD]
    exact hout _ (.inr (by omega))
end Go.Proofs.YtdmmbnnejbmdpaaGreatDoor
end
section
set_option linter.unusedVariables false
set_option linter.unusedSimpArgs false
namespace Go.Proofs.YtdmmbnnejbmdpaaGreatDoor
open Go.Lib Go.RowKit Go.ChangeShapes Go.WideShapes Go.Deep Go.Shelf
theorem tabW_at {s : Sk} {B : List Nat} {N L G : Nat} {R : List Bl} (h : StkP s B N L G R) {X : List Nat} (hl : X.length = N) {p : Nat} (hp : p < G) : (tabW X L).getD p 0 = X.getD (10 + 73 * L + p) 0 := tab_at (by rw [hl, h.gn]; exact hp)
theorem tabW_ln {s : Sk} {B : List Nat} {N L G : Nat} {R : List Bl} (h : StkP s B N L G R) {X : List Nat} (hl : X.length = N) : (tabW X L).length = G := by rw [tab_len (by rw [hl]; exact h.g), hl, h.gn]
theorem StkP.ne {s : Sk} {B : List Nat} {N L G : Nat} {R : List Bl} (h : StkP s B N L G R) : R.Pairwise (fun a b => ¬ a = b) := by
  have h1 := (asc_T h.right).1
  rw [show blksT (tabW B L) = R from h.bl] at h1
  exact asc_ne h1 (fun b hb => (h.bk b hb).2.1)
theorem StkP.dropR {s : Sk} {B : List Nat} {N L G : Nat} {R : List Bl} (h : StkP s B N L G R) (hep : s.ep < 4294967296) {i : Nat} (hi : i < R.length) (h32 : (R.getD i default).2.2 < 32) :
    (R.getD i default).1 < G ∧ (R.getD i default).2.1 < 8 ∧ B.getD (10 + 73 * L + (R.getD i default).1) 0 < 4294967296 ∧
    (B.getD 8 0 = plc N L (R.getD i default) → soundB (B.set (10 + 73 * L + (R.getD i default).1) (clrW (B.getD (10 + 73 * L + (R.getD i default).1) 0) (R.getD i default).2.1)) = false) ∧
    (¬ B.getD 8 0 = plc N L (R.getD i default) → soundB (B.set (10 + 73 * L + (R.getD i default).1) (clrW (B.getD (10 + 73 * L + (R.getD i default).1) 0) (R.getD i default).2.1)) = true ∧ objL (B.set (10 + 73 * L + (R.getD i default).1) (clrW (B.getD (10 + 73 * L + (R.getD i default).1) 0) (R.getD i default).2.1)) = (objL B).take i ++ (objL B).drop (i + 1)) := by
  have hm : R.getD i default ∈ blksT (tabW B L) := by rw [show blksT (tabW B L) = R from h.bl]; exact h.mem hi
  obtain ⟨a1, a2, a3, a4, a5⟩ := drop_run h.right h.calm hm h32
  have hc := (blk_from hm).2.1
  rw [tabW_ln h h.len] at hc
  rw [tabW_at h h.len hc] at a1 a3 a4 a5
  rw [show blksT (tabW B L) = R from h.bl] at a5
  have hf := filter_at h.ne hi
  have hdr := fun X hl ho hr hc hb => h.dropped hep (X := X) hi hl ho hr hc hb
  generalize R.getD i default = b at *
  generalize clrW (B.getD (10 + 73 * L + b.1) 0) b.2.1 = y at *
  have hN := h.hN
  have hl : (B.set (10 + 73 * L + b.1) y).length = N := by rw [List.length_set]; exact h.len
  have hT : tabW (B.set (10 + 73 * L + b.1) y) L = (tabW B L).set b.1 y := by
    refine ext_getD (by rw [List.length_set, tabW_ln h hl, tabW_ln h h.len]) (fun p hp => ?_)
    rw [tabW_ln h hl] at hp
    rw [tabW_at h hl hp, getD_setS, getD_setS, tabW_ln h h.len, tabW_at h h.len hp, h.len]
    by_cases e : b.1 = p
    · subst e; rw [if_pos ⟨rfl, by omega⟩, if_pos ⟨rfl, hp⟩]
    · rw [if_neg (fun q => e (by omega)), if_neg (fun q => e q.1)]
  refine ⟨hc, a2, a1, ?_⟩
  refine hdr _ hl (fun p hp => ?_) (by rw [hT]; exact a3) (by rw [hT]; exact a4) (by unfold blI; rw [hT, a5]; exact hf)
  rw [getD_setS, if_neg (by omega)]
theorem StkP.dropH {s : Sk} {B : List Nat} {N L G : Nat} {R : List Bl} (h : StkP s B N L G R) (hep : s.ep < 4294967296) {i : Nat} (hi : i < R.length) (h32 : 32 ≤ (R.getD i default).2.2) :
    (R.getD i default).1 + (R.getD i default).2.2 / 32 ≤ G ∧
    (B.getD 8 0 = plc N L (R.getD i default) → soundB (zs B (10 + 73 * L + (R.getD i default).1) ((R.getD i default).2.2 / 32)) = false) ∧
    (¬ B.getD 8 0 = plc N L (R.getD i default) → soundB (zs B (10 + 73 * L + (R.getD i default).1) ((R.getD i default).2.2 / 32)) = true ∧ objL (zs B (10 + 73 * L + (R.getD i default).1) ((R.getD i default).2.2 / 32)) = (objL B).take i ++ (objL B).drop (i + 1)) := by
  have hm : R.getD i default ∈ blksT (tabW B L) := by rw [show blksT (tabW B L) = R from h.bl]; exact h.mem hi
  obtain ⟨a2, a3, a4, a5⟩ := drop_huge h.right h.calm hm h32
  rw [tabW_ln h h.len] at a2
  rw [show blksT (tabW B L) = R from h.bl] at a5
  have hf := filter_at h.ne hi
  have hdr := fun X hl ho hr hc hb => h.dropped hep (X := X) hi hl ho hr hc hb
  generalize R.getD i default = b at *
  generalize b.2.2 / 32 = m at *
  have hN := h.hN
  have hl : (zs B (10 + 73 * L + b.1) m).length = N := by rw [zs_len]; exact h.len
  have hT : tabW (zs B (10 + 73 * L + b.1) m) L = zs (tabW B L) b.1 m := by
    refine ext_getD (by rw [zs_len, tabW_ln h hl, tabW_ln h h.len]) (fun p hp => ?_)
    rw [tabW_ln h hl] at hp
    rw [tabW_at h hl hp, zs_at, zs_at, tabW_at h h.len hp]
    by_cases e : b.1 ≤ p ∧ p < b.1 + m
    · rw [if_pos (by omega), if_pos e]
    · rw [if_neg (by omega), if_neg e]
  refine ⟨a2, ?_⟩
  refine hdr _ hl (fun p hp => ?_) (by rw [hT]; exact a3) (by rw [hT]; exact a4) (by unfold blI; rw [hT, a5]; exact hf)
  rw [zs_at, if_neg (by omega)]
end Go.Proofs.YtdmmbnnejbmdpaaGreatDoor
end
section
set_option linter.unusedVariables false
set_option linter.unusedSimpArgs false
namespace Go.Proofs.YtdmmbnnejbmdpaaGreatDoor
open Go.Lib Go.RowKit Go.ChangeShapes Go.WideShapes Go.Deep Go.Shelf
theorem zs_WL {X : List Nat} (h : WL X) (q : Nat) : ∀ k, WL (zs X q k)
  | 0 => h
  | k + 1 => (zs_WL h q k).setN _ _ (by decide)
structure DrS (w0 : World) (C0 : Nat) (sc : Array Value) (Bs B N c Tb : Nat) (tc : Array Value) (b1 : Nat) (v8 : Value) (R : List Bl) (b2 : Nat) (v9 : Value) (O : List Oj) (X : List Nat) (w : World) : Prop where
  sp : SpS w0 C0 sc Bs B N c X w
  t : HB w Tb tc 57
  l : BKO w b1 v8 R
  o : OJO w b2 v9 O
  h1 : B < b1
  h2 : B < b2
  h3 : Tb ≠ B
  h4 : b2 ≤ w.heap.size
theorem DrS.keep {w0 : World} {C0 : Nat} {sc : Array Value} {Bs B N c Tb : Nat} {tc : Array Value} {b1 : Nat} {v8 : Value} {R : List Bl} {b2 : Nat} {v9 : Value} {O : List Oj} {X : List Nat} {w w1 : World} (h : DrS w0 C0 sc Bs B N c Tb tc b1 v8 R b2 v9 O X w) (hb : Below w.heap.size w w1) : DrS w0 C0 sc Bs B N c Tb tc b1 v8 R b2 v9 O X w1 :=
  ⟨h.sp.keep hb, h.t.keep hb, h.l.keep hb, h.o.keep hb, h.h1, h.h2, h.h3, Nat.le_trans h.h4 hb.size⟩
theorem DrS.set {w0 : World} {C0 : Nat} {sc : Array Value} {Bs B N c Tb : Nat} {tc : Array Value} {b1 : Nat} {v8 : Value} {R : List Bl} {b2 : Nat} {v9 : Value} {O : List Oj} {X : List Nat} {w : World} (h : DrS w0 C0 sc Bs B N c Tb tc b1 v8 R b2 v9 O X w) (i y : Nat) (hi : i < N) : DrS w0 C0 sc Bs B N c Tb tc b1 v8 R b2 v9 O (X.set i y) (w.setCell ⟨B, i, none⟩ (.int .u64 (y : Nat))) := by
  have hc : Chg (fun k => k = B) w (w.setCell ⟨B, i, none⟩ (.int .u64 (y : Nat))) := Chg.setCell (S := fun k => k = B) w B i _ rfl
  refine ⟨h.sp.set i y hi, HB.chg h.t hc h.h3, OwnE.chg h.l hc (fun k hk e => ?_), h.o.chg hc (fun k hk e => ?_), h.h1, h.h2, h.h3, Nat.le_trans h.h4 hc.size⟩
  · have h4 := (OwnE.lt h.l k hk).1
    have h5 := h.h1
    omega
  · have h5 := h.h2
    omega
theorem run_slice_from9 {P : Program} {ty e : TypeId} {i0 : TypeInfo} {sz : Nat} (hu : P.underlying ty = some (.slice e)) (hi : P.info? e = some i0) (hs : i0.size = sz) (A : Option Addr) (n cap t : Nat) (h : t ≤ n) (w : World) :
    (Instr.slice ty (.slice A n cap) (some (.int .i64 (t : Int))) none none).run P w = .ok (.slice (if cap = t then A else A.map (·.add (t * sz))) (n - t) (cap - t)) w := by
  subst hs
  have h1 : (t : Int) ≤ (n : Int) := by omega
  have h2 : (0 : Int) ≤ (t : Int) := by omega
  simp [Instr.slice, run_underlying hu, Instr.sliceBounds, Instr.sliceBound, asIntOf, sizeOf, typeInfo, hi, h2, h1, go_sem]
  exact fun h' => by omega
theorem EL.take9 {α : Type} [Inhabited α] {sz : Nat} {en : α → List Value} {w : World} {A : Option Addr} {n cap : Nat} {l : List α} (h : EL sz en w (.slice A n cap) l) (t : Nat) (ht : t ≤ l.length) : EL sz en w (.slice A t cap) (l.take t) := by
  obtain ⟨A', cap', hv, h⟩ := h
  cases hv
  refine ⟨A, cap, by rw [List.length_take, Nat.min_eq_left ht], fun hl => ?_⟩
  rw [List.length_take, Nat.min_eq_left ht] at hl
  obtain ⟨g, off, hA, hg, hc, hi⟩ := h (by omega)
  refine ⟨g, off, hA, hg, by rw [List.length_take]; omega, fun i h j hj => ?_⟩
  rw [List.length_take] at h
  rw [hi i (by omega) j hj, List.getD_eq_getElem?_getD, List.getD_eq_getElem?_getD, List.getElem?_take_of_lt (by omega)]
theorem EL.drop9 {α : Type} [Inhabited α] {sz : Nat} {en : α → List Value} {w : World} {A : Option Addr} {n cap : Nat} {l : List α} (h : EL sz en w (.slice A n cap) l) (t : Nat) (ht : t ≤ n) : EL sz en w (.slice (if cap = t then A else A.map (·.add (t * sz))) (n - t) (cap - t)) (l.drop t) := by
  obtain ⟨A', cap', hv, h⟩ := h
  simp only [Value.slice.injEq] at hv
  obtain ⟨rfl, rfl, rfl⟩ := hv
  refine ⟨_, _, by rw [List.length_drop], fun hl => ?_⟩
  rw [List.length_drop] at hl
  obtain ⟨g, off, rfl, hg, hc, hi⟩ := h (by omega)
  refine ⟨g, off + t * sz, ?_, hg, by rw [List.length_drop]; omega, fun i h j hj => ?_⟩
  · rw [if_neg (by omega), Option.map_some, WideShapes.add_plain]
  · rw [List.length_drop] at h
    rw [show off + t * sz + i * sz + j = off + (t + i) * sz + j by rw [Nat.add_mul]; omega, hi (t + i) (by omega) j hj, List.getD_eq_getElem?_getD, List.getD_eq_getElem?_getD, List.getElem?_drop]
theorem getD_cut {α : Type} {d : α} (l : List α) (i k : Nat) (hi : i < l.length) : (l.take i ++ l.drop (i + 1)).getD k d = if k < i then l.getD k d else l.getD (k + 1) d := by
  by_cases h : k < i
  · rw [if_pos h, List.getD_eq_getElem?_getD, List.getElem?_append_left (by rw [List.length_take]; omega), List.getElem?_take_of_lt h, List.getD_eq_getElem?_getD]
  · rw [if_neg h, List.getD_eq_getElem?_getD, List.getElem?_append_right (by rw [List.length_take]; omega), List.getElem?_drop, List.length_take, List.getD_eq_getElem?_getD, show i + 1 + (k - min i l.length) = k + 1 from by omega]
/-- a list of objects without one of them -/
theorem newJ {w : World} {b2 n i c : Nat} {A : Option Addr} {O : List Oj} (h : OJO w b2 (.slice A n c) O) (hn : O.length = n) (hi : i < n) (hb : b2 ≤ w.heap.size) (hsm : n ≤ 100000) :
    ∃ v1 w1 v2 w2, (Builtin.append_ #[39, 39] 39 #[.slice (some ⟨w.heap.size, 0, none⟩) 0 0, .slice A i c]).run Tryz.prog (w.alloc (.cells #[] (64 : Nat))) = .ok v1 w1 ∧ (Builtin.append_ #[39, 39] 39 #[v1, .slice (if c = i + 1 then A else A.map (·.add ((i + 1) * 4))) (n - (i + 1)) (c - (i + 1))]).run Tryz.prog w1 = .ok v2 w2 ∧
      OJO w2 b2 v2 (O.take i ++ O.drop (i + 1)) ∧ Below w.heap.size w w1 ∧ Below w.heap.size w w2 := by
  obtain ⟨xs, h1, h2⟩ := h
  have hxn : xs.length = n := h2.1.trans hn
  have hB : Below w.heap.size w (w.alloc (.cells #[] (64 : Nat))) := (Below.refl _ _).alloc (Nat.le_refl _) _
  have hO : OwnE 64 4 eJ (w.alloc (.cells #[] (64 : Nat))) w.heap.size (.slice (some ⟨w.heap.size, 0, none⟩) 0 0) ([] : List Jx) := World.ownsRow_lit (base := w.heap.size) (e := 64) (size := 4) w #[] 0 (Nat.le_refl _) (by unfold maxLen; omega) rfl
  have hE := h1.el eJ_len
  obtain ⟨v1, w1, r1, o1, g1, -, -⟩ := appE jT hO ((hE.keep hB).take9 i (by omega)) hB.size (by simp) (by rw [List.length_take]; omega)
  rw [List.nil_append] at o1
  have hB1 : Below w.heap.size w w1 := hB.trans (grown_below g1 hB.size (fun k q => (hO.lt k q).1))
  obtain ⟨v2, w2, r2, o2, g2, -, -⟩ := appE jT o1 ((hE.keep hB1).drop9 (i + 1) (by omega)) hB1.size (by rw [List.length_take]; omega) (by rw [List.length_drop]; omega)
  have hB2 : Below w.heap.size w w2 := hB1.trans (grown_below g2 hB1.size (fun k q => (o1.lt k q).1))
  refine ⟨v1, w1, v2, w2, r1, r2, ⟨_, o2.mono hb, ?_, fun k hk => ?_⟩, hB1, hB2⟩
  · rw [List.length_append, List.length_append, List.length_take, List.length_take, List.length_drop, List.length_drop, h2.1]
  · rw [List.length_append, List.length_take, List.length_drop] at hk
    rw [getD_cut xs i k (by omega), getD_cut O i k (by omega)]
    by_cases e : k < i
    · rw [if_pos e, if_pos e]
      exact ⟨(h2.2 k (by omega)).1, (h2.2 k (by omega)).2.keep hB2⟩
    · rw [if_neg e, if_neg e]
      exact ⟨(h2.2 (k + 1) (by omega)).1, (h2.2 (k + 1) (by omega)).2.keep hB2⟩
set_option maxRecDepth 10000 in
set_option maxHeartbeats 4000000 in
theorem soundDrops (s : Sk) (vT vY vE vF : Value) (a : Nat) (ha : a < 256) (w : World) (hw : Lw w) (hM : SkM w vT vY vE vF s) (hB : SkB s) :
    Calls Tryz.prog 8 #[skV s vT vY vE vF, .int .u8 (a : Nat)] w fun e w' => e = .returned (.bool true) ∧ Below w.heap.size w w' := by
  obtain ⟨AT, cT, AY, cY, AE, cE, AF, cF, rfl, rfl, rfl, rfl⟩ := hM.sl
  have hAw := Lib.hid (fun w1 (hb : Below w.heap.size w w1) => awake16 w1 (hw.keep hb))
  have hFe := Lib.hid (fun w1 => few16 s AT AY AE AF s.tiles.length cT s.types.length cY s.less.length cE s.fill.length cF w1 rfl rfl rfl rfl)
  have hSt := Lib.hid (fun w1 (hb : Below w.heap.size w w1) (hf : fewS s = true) => Stocked_any s _ _ _ _ w1 (hw.keep hb) (hM.keep hb) hB hf)
  obtain ⟨hg, hgN, hgat, hL1, hL3, hG1, hG8⟩ := gv_geo (gvS s)
  have hslen := stockL_len s
  have hNN : gvN (gvS s) = 10 + 73 * gvL (gvS s) + 33 * gvG (gvS s) := rfl
  have hGe := Lib.hid (fun w1 => show Calls Tryz.prog 22 #[.agg #[.int .u8 (s.a : Nat), .int .u8 (s.b : Nat), .slice none 0 0, .slice none 0 0, .slice none 0 0, .int .u64 0, .int .u64 0, .slice none 0 0]] w1 (fun e w' => e = .returned (.agg #[.int .i64 (gvN (gvS s) : Nat), .int .i64 (gvL (gvS s) : Nat)]) ∧ Below w1.heap.size w1 w') from
    geom_any { a := s.a, b := s.b, tiles := [], fill := [], items := [], root := 0, epoch := 0, spoil := [] } none none none none 0 0 0 0 0 0 0 0 w1 ⟨hB.a, hB.b, fun x hx => (by cases hx), fun x hx => (by cases hx), fun x hx => (by cases hx), (by show 0 < 18446744073709551616; decide), (by show 0 < 18446744073709551616; decide), fun x hx => (by cases hx)⟩)
  have hTb := Lib.hid (fun w1 => refTable_t (gvN (gvS s) : Nat) (gvL (gvS s) : Nat) w1 hg)
  rw [hgN] at hTb
  have hse := hB.ep
  obtain ⟨R, hP⟩ := stock_parts hB
  have hwk := Lib.hid (fun w1 (hb : Below w.heap.size w w1) => hw.keep hb)
  obtain ⟨X, hX⟩ : ∃ X, stockL s = X := ⟨_, rfl⟩
  obtain ⟨N, hN⟩ : ∃ N, gvN (gvS s) = N := ⟨_, rfl⟩
  obtain ⟨L, hL⟩ : ∃ L, gvL (gvS s) = L := ⟨_, rfl⟩
  obtain ⟨G, hG⟩ : ∃ G, gvG (gvS s) = G := ⟨_, rfl⟩
  rw [hX] at hSt hslen hP
  rw [hN, hL, hG] at hP
  rw [hN] at hslen
  rw [hN, hL] at hGe hTb hg hgat hgN
  rw [hN, hL, hG] at hNN
  rw [hG] at hTb hG1 hG8 hgN hgat
  rw [hL] at hL1 hL3
  obtain ⟨F, hF⟩ : ∃ F, 10 + 73 * L = F := ⟨_, rfl⟩
  have hN1 : 116 ≤ N := by omega
  have hN2 : N ≤ 800 := by omega
  have hFG : F + G ≤ N := by omega
  obtain ⟨tl, -⟩ := hP.tell hse
  have hsd := hP.sound hse
  obtain ⟨n, hnR0⟩ : ∃ n, R.length = n := ⟨_, rfl⟩
  have hn64 := hP.n64
  rw [hnR0] at tl hn64
  have hpl := Lib.hid (fun i (hi : i < n) => (hP.tell1 hse (show i < R.length by omega)).1)
  have hpb := Lib.hid (fun i (hi : i < n) => (hP.tell1 hse (show i < R.length by omega)).2.1)
  have hdR0 := Lib.hid (fun i (hi : i < n) h32 => hP.dropR hse (show i < R.length by omega) h32)
  have hdH0 := Lib.hid (fun i (hi : i < n) h32 => hP.dropH hse (show i < R.length by omega) h32)
  have hub := Lib.hid (fun i (hi : i < n) => show (R.getD i default).2.2 ≤ 1000 from by
    have h3 := (asc_T hP.right).2
    rw [show blksT (tabW X L) = R from hP.bl, tabW_ln hP hP.len] at h3
    have h4 := h3 _ (hP.mem (show i < R.length by omega))
    omega)
  have htW9 := tabW_ln hP hP.len
  have hbl9 := Lib.hid (show blksT (tabW X L) = R from hP.bl)
  have hOd := Lib.hid (fun x (hx : x ∈ objL X) => show x.2.length ≤ 1000000 from by
    obtain ⟨j, hj, rfl⟩ := List.getElem_of_mem hx
    have := (apart_at (I := X) (k := j) (by rw [hslen]; omega) hj).2.2.1
    rw [hslen, List.getD_eq_getElem?_getD, List.getElem?_eq_getElem hj] at this
    have h2 : (objL X)[j].2.length ≤ N := by
      have h3 : ((some (objL X)[j]).getD default).2.length = (objL X)[j].2.length := rfl
      omega
    omega)
  rw [hF] at hdR0 hdH0
  obtain ⟨O, hO⟩ : ∃ O, objL X = O := ⟨_, rfl⟩
  have hObj := Lib.hid (fun v w1 (h1 : Lw w1) (h2 : KL .u64 w1 v X) (h3 : WL X) => Objects_any v X w1 h1 h3 h2 (by omega))
  rw [hO] at hpl tl hObj hOd
  have hOX := Lib.hid hO
  have hn := Lib.hid tl
  have hnR := Lib.hid hnR0
  have hTb2 := Lib.hid (fun w1 => show Calls Tryz.prog 25 #[.agg #[.int .i64 (N : Nat), .int .i64 (L : Nat)]] w1 (fun e w' => e = .returned (.agg #[.int .i64 (F : Nat), .int .i64 (G : Nat)]) ∧ Below w1.heap.size w1 w') from by
    have h := hTb.out w1
    rw [show (10 + 73 * (L : Int)) = ((F : Nat) : Int) from by omega] at h
    exact h)
  have hTab := Lib.hid (show (X.drop F).take G = tabW X L from by unfold tabW; rw [hslen, hgat, hF])
  obtain ⟨ij, hji, hj0, hj1, hj2⟩ := info_parts infoJ
  replace htW9 := Lib.hid htW9
  clear hNN hg hgN hgat hP tl hnR0 hO hse hsd hTb hF
  obtain ⟨nT, hnT⟩ : ∃ n, s.tiles.length = n := ⟨_, rfl⟩
  obtain ⟨nY, hnY⟩ : ∃ n, s.types.length = n := ⟨_, rfl⟩
  obtain ⟨nE, hnE⟩ : ∃ n, s.less.length = n := ⟨_, rfl⟩
  obtain ⟨nF, hnF⟩ : ∃ n, s.fill.length = n := ⟨_, rfl⟩
  rw [hnT, hnY, hnE, hnF] at hFe hSt
  rw [hnT, hnY, hnE, hnF]
  unfold skV at hFe hSt ⊢
  replace hX := Lib.hid hX
  replace hN := Lib.hid hN
  replace hL := Lib.hid hL
  replace hG := Lib.hid hG
  clear hM hB hw
  have hb0 := (Below.refl w.heap.size w).alloc (Nat.le_refl _) (.cells #[.int .u8 (s.a : Nat), .int .u8 (s.b : Nat), .slice AT nT cT, .slice AY nY cY, .slice AE nE cE, .int .u32 (s.ep : Nat), .int .u8 (s.root : Nat), .slice AF nF cF] 27)
  have gS := HB.new w #[.int .u8 (s.a : Nat), .int .u8 (s.b : Nat), .slice AT nT cT, .slice AY nY cY, .slice AE nE cE, .int .u32 (s.ep : Nat), .int .u8 (s.root : Nat), .slice AF nF cF] 27
  obtain ⟨wb1, hwb1⟩ : ∃ x, w.alloc (.cells #[.int .u8 (s.a : Nat), .int .u8 (s.b : Nat), .slice AT nT cT, .slice AY nY cY, .slice AE nE cE, .int .u32 (s.ep : Nat), .int .u8 (s.root : Nat), .slice AF nF cF] 27) = x := ⟨_, rfl⟩
  have hswb1 : wb1.heap.size = w.heap.size + 1 := by rw [← hwb1]; simp
  rw [hwb1] at hb0 gS
  obtain ⟨C0, hC0⟩ : ∃ C, w.heap.size = C := ⟨_, rfl⟩
  have hB : Below w.heap.size w wb1 := hb0
  rw [hC0] at gS
  clear hb0
  go_enter Tryz.func8, Tryz.ntmps8
  subst hwb1
  go_wp2_with fail
  refine (hAw.out _ hB).mono ?_
  rintro e w1 ⟨rfl, hb1⟩
  have hB1 := hB.trans (hb1.mono hB.size)
  have gS1 := gS.keep hb1
  clear hAw hb1 hB gS
  have p0 := (row_cell gS1 0).1
  have p1 := (row_cell gS1 1).1
  have p2 := (row_cell gS1 2).1
  have p3 := (row_cell gS1 3).1
  have p4 := (row_cell gS1 4).1
  have p5 := (row_cell gS1 5).1
  have p6 := (row_cell gS1 6).1
  have p7 := (row_cell gS1 7).1
  go_wp2_with fail
  refine (hFe.out _).mono ?_
  rintro e w2 ⟨rfl, hb2⟩
  have hB2 := hB1.trans (hb2.mono hB1.size)
  have gS2 := gS1.keep hb2
  clear p0 p1 p2 p3 p4 p5 p6 p7 hb2 hB1 gS1 hFe
  cases hfew : fewS s with
  | false =>
    go_wp2_with fail
    go_ret
    exact ⟨rfl, hB2⟩
  | true =>
    have hSt2 := hSt.out _ hB2 hfew
    clear hSt hfew
    have p0 := (row_cell gS2 0).1
    have p1 := (row_cell gS2 1).1
    have p2 := (row_cell gS2 2).1
    have p3 := (row_cell gS2 3).1
    have p4 := (row_cell gS2 4).1
    have p5 := (row_cell gS2 5).1
    have p6 := (row_cell gS2 6).1
    have p7 := (row_cell gS2 7).1
    go_wp2_with fail
    refine hSt2.mono ?_
    rintro e w3 ⟨v3, rfl, hO3, hW, hb3⟩
    have hB3 := hB2.trans (hb3.mono hB2.size)
    have gS3 := gS2.keep hb3
    obtain ⟨A3, c3, hv3, hf3⟩ := OwnU.form hO3
    rw [hslen] at hv3 hf3
    cases hv3
    obtain ⟨B, rfl, -, -⟩ := hf3 (by omega)
    have hk3 := hO3.kl
    have hc3 : N ≤ c3 := by
      obtain ⟨A9, c9, hv9, h9⟩ := hk3.form hslen
      cases hv9
      obtain ⟨_, _, _, h2, _⟩ := h9 w3 0 (Below.refl _ _) (by omega)
      exact h2
    have hbs : w.heap.size ≤ w2.heap.size := hB2.size
    clear p0 p1 p2 p3 p4 p5 p6 p7 hSt2 hb3 hf3 gS2 hB2
    obtain ⟨Bs, hBs⟩ : ∃ b, w2.heap.size = b := ⟨_, rfl⟩
    rw [hBs] at hO3 hbs
    clear hBs
    have hS3 : SpS w C0 #[.int .u8 (s.a : Nat), .int .u8 (s.b : Nat), .slice AT nT cT, .slice AY nY cY, .slice AE nE cE, .int .u32 (s.ep : Nat), .int .u8 (s.root : Nat), .slice AF nF cF] Bs B N c3 X w3 := ⟨hO3, hslen, gS3, hB3, hbs⟩
    have hB3s : B < w3.heap.size := (World.ownsRow.lt hO3 B rfl).2
    have hWX := hW
    have gSa := gS3
    clear hO3 hk3 gS3
    have p0 := (row_cell gSa 0).1
    have p1 := (row_cell gSa 1).1
    go_wp2_with fail
    refine (hGe.out _).mono ?_
    rintro e w4 ⟨rfl, hb4⟩
    have hB4 := hB3.trans (hb4.mono hB3.size)
    have e5 := (Below.refl w4.heap.size w4).alloc (Nat.le_refl _) (.cells #[.int .i64 (N : Nat), .int .i64 (L : Nat)] 51)
    have gG := HB.new w4 #[.int .i64 (N : Nat), .int .i64 (L : Nat)] 51
    obtain ⟨w5, hw5⟩ : ∃ x, w4.alloc (.cells #[.int .i64 (N : Nat), .int .i64 (L : Nat)] 51) = x := ⟨_, rfl⟩
    rw [hw5] at e5 gG
    obtain ⟨Gb, hGb⟩ : ∃ K, w4.heap.size = K := ⟨_, rfl⟩
    rw [hGb] at gG
    have hB5 := hB4.trans (e5.mono hB4.size)
    obtain ⟨g0, g1⟩ := gG.c2
    have hS5 := (hS3.keep hb4).keep e5
    have hTb5 := hTb2.out w5
    have h35 : w3.heap.size ≤ w5.heap.size := Nat.le_trans hb4.size e5.size
    clear p0 p1 e5 hb4 hB4 hS3 gSa hGe hTb2 hB3
    subst hw5
    go_wp2_with fail
    refine hTb5.mono ?_
    rintro e w6 ⟨rfl, hb6⟩
    have hS6 := hS5.keep hb6
    have e7 := (Below.refl w6.heap.size w6).alloc (Nat.le_refl _) (.cells #[.int .i64 (F : Nat), .int .i64 (G : Nat)] 57)
    have gT := HB.new w6 #[.int .i64 (F : Nat), .int .i64 (G : Nat)] 57
    obtain ⟨w7, hw7⟩ : ∃ x, w6.alloc (.cells #[.int .i64 (F : Nat), .int .i64 (G : Nat)] 57) = x := ⟨_, rfl⟩
    rw [hw7] at e7 gT
    obtain ⟨Tb, hTb9⟩ : ∃ K, w6.heap.size = K := ⟨_, rfl⟩
    have h36 : w3.heap.size ≤ Tb := by rw [← hTb9]; exact Nat.le_trans h35 hb6.size
    have h37 : w3.heap.size ≤ w7.heap.size := by have := e7.size; omega
    rw [hTb9] at gT
    have hS7 := hS6.keep e7
    have hPart := part15_any B 0 N c3 F G w7 (by omega) hc3 (by omega) (by omega)
    obtain ⟨t0, t1⟩ := gT.c2
    clear g0 g1 gG hGb hS5 hS6 hTb5 hb6 e7 h35 hB5
    subst hw7
    go_wp2_with fail
    refine hPart.mono ?_
    rintro e w8 ⟨rfl, hb8⟩
    have hS8 := hS7.keep hb8
    have gT8 := gT.keep hb8
    have hkA : KL .u64 w8 (.slice (some ⟨B, F, none⟩) G (c3 - F)) (tabW X L) := by
      have h := KL.partC hS8.o.kl hslen F G (c3 - F) (by omega) (by omega)
      rw [Nat.zero_add] at h
      rw [hTab.out] at h
      exact h
    have htW : WL (tabW X L) := fun x hx => hW.out x (by rw [← hTab.out] at hx; exact List.mem_of_mem_drop (List.mem_of_mem_take hx))
    have hBk := refBlocks_any _ (tabW X L) w8 (hwk.out _ hS8.below) hkA htW (by rw [htW9.out]; omega)
    rw [hbl9.out] at hBk
    have h38 : w3.heap.size ≤ w8.heap.size := Nat.le_trans h37 hb8.size
    clear t0 t1 gT hS7 hPart hb8 hkA htW h37
    go_wp2_with fail
    refine hBk.mono ?_
    rintro e w9 ⟨v8, rfl, hO8, hb9⟩
    have hS9 := hS8.keep hb9
    have gT9 := gT8.keep hb9
    have h39 : w3.heap.size ≤ w9.heap.size := Nat.le_trans h38 hb9.size
    have hOb9 := hObj.out _ w9 (hwk.out _ hS9.below) hS9.o.kl hW.out
    obtain ⟨A8, c8, rfl, -⟩ := BKO.formB hO8 hnR.out
    clear hBk hb9 hS8 gT8 hObj
    go_wp2_with fail
    refine hOb9.mono ?_
    rintro e wp ⟨v9, rfl, hO9, hbp⟩
    obtain ⟨A9, c9, rfl, -⟩ := hO9.formJ hn.out
    have hc9 : n ≤ c9 := by
      obtain ⟨A', c', hv', hF'⟩ := hO9.formJ hn.out
      cases hv'
      by_cases h0 : 0 < n
      · obtain ⟨_, _, _, _, h2, _⟩ := hF' wp 0 (Below.refl _ _) h0
        exact h2
      · omega
    obtain ⟨b1, hb1⟩ : ∃ b, w8.heap.size = b := ⟨_, rfl⟩
    obtain ⟨b2, hb2⟩ : ∃ b, w9.heap.size = b := ⟨_, rfl⟩
    have hb2s : b2 ≤ wp.heap.size := by rw [← hb2]; exact hbp.size
    have hZ : DrS w C0 #[.int .u8 (s.a : Nat), .int .u8 (s.b : Nat), .slice AT nT cT, .slice AY nY cY, .slice AE nE cE, .int .u32 (s.ep : Nat), .int .u8 (s.root : Nat), .slice AF nF cF] Bs B N c3 Tb #[.int .i64 (F : Nat), .int .i64 (G : Nat)] b1 (.slice A8 n c8) R b2 (.slice A9 n c9) O X wp := ⟨hS9.keep hbp, gT9.keep hbp, by rw [← hb1]; exact hO8.keep hbp, by rw [← hb2]; exact hO9, by omega, by omega, by omega, hb2s⟩
    clear hOb9 hS9 gT9 hO8 hO9 hbp hb1 hb2 h36 h38 h39 hB3s
    by_cases hn0 : n = 0
    case pos =>
      have n1 : (n : Int) = 0 := by omega
      have n2 : ((n : Int) == 0) = true := beq_iff_eq.2 n1
      have hBe := hZ.sp.below
      go_wp2_with fail
      go_ret
      exact ⟨by first | rfl | simp, hBe⟩
    have n1 : ¬ (n : Int) = 0 := by omega
    have n2 : ((n : Int) == 0) = false := beq_eq_false_iff_ne.2 n1
    have n3 : ¬ n = 0 := hn0
    obtain ⟨i, hi⟩ : ∃ z9, a % n = z9 := ⟨_, rfl⟩
    have hin : i < n := by rw [← hi]; exact Nat.mod_lt _ (by omega)
    have r1i : (a : Int) % (n : Int) = (i : Int) := by rw [← hi]; rfl
    have r2i : (a : Int).tmod (n : Int) = (i : Int) := by rw [Int.tmod_eq_emod_of_nonneg (by omega)]; exact r1i
    have r4i : IntKind.i64.wrap (a : Int) = (a : Int) := wrapQ _ (by omega) (by omega)
    have r5i : (i : Int) < (n : Int) := by omega
    replace hi := Lib.hid hi
    obtain ⟨⟨cb, jb, ub⟩, hb9⟩ : ∃ b : Bl, R.getD i default = b := ⟨_, rfl⟩
    replace hb9 := Lib.hid hb9
    obtain ⟨A5, c5, hv5, hF5⟩ := BKO.formB hZ.l hnR.out
    cases hv5
    obtain ⟨g5, o5, hA5, hc5, hg5, -, k0, k1, k2⟩ := hF5 wp i (Below.refl _ _) hin
    rw [hb9.out] at k0 k1 k2
    simp only [] at k0 k1 k2
    subst hA5
    have hdR := Lib.hid (fun h32 => hdR0.out i hin h32)
    have hdH := Lib.hid (fun h32 => hdH0.out i hin h32)
    have hub1 := hub.out i hin
    have hpb1 := hpb.out i hin
    have hpl1 := hpl.out i hin
    obtain ⟨A6, c6, hv6, hF6⟩ := hZ.o.formJ hn.out
    cases hv6
    obtain ⟨g6, o6, d6, hA6, -, -, hg6, x0, -, -, -, -⟩ := hF6 wp i (Below.refl _ _) hin
    subst hA6
    rw [hpl1] at x0
    obtain ⟨p, hp⟩ : ∃ p, plc N L (R.getD i default) = p := ⟨_, rfl⟩
    rw [hp] at x0 hdR hdH hpb1
    rw [hb9.out] at hdR hdH hub1
    simp only [] at hdR hdH hub1
    clear hF6 hp hpl1 hdR0 hdH0 hub hpb hpl r1i
    obtain ⟨x8, hx8⟩ : ∃ x, X.getD 8 0 = x := ⟨_, rfl⟩
    rw [hx8] at hdR hdH
    have h8N : (8 : Int) < (N : Int) := by omega
    have w1 : IntKind.u64.wrap (p : Int) = (p : Int) := by rw [IntKind.wrap_u64]; omega
    have hCF := Lib.hid (fun w' (hb : Below wp.heap.size wp w') => show w'.cell? ⟨B, 8, none⟩ = some (.int .u64 (x8 : Nat)) ∧ w'.cell? ⟨g6, o6 + i * 4, none⟩ = some (.int .i64 (p : Nat)) from ⟨by rw [← hx8]; exact ((hZ.keep hb).sp.o.cell hZ.sp.l (by omega)).1, ((bcell hb).1 _ _ hg6).trans x0⟩)
    replace hx8 := Lib.hid hx8
    clear x0
    by_cases h8p : x8 = p
    case pos =>
      have h8q : ((x8 : Int) == (p : Int)) = true := by rw [h8p]; exact beq_self_eq_true _
      subst h8p
      have h8p : x8 = x8 := rfl
      go_wp2_with fail
      refine wp_region_held_drew (S := (fun w' => Below wp.heap.size wp w')) (by kernel_rfl) (Below.refl _ _).drew (fun hHeld => ?_)
      refine takeH 0 ?_
      refine takeH 1 ?_
      refine takeH 2 ?_
      refine takeH 3 ?_
      refine takeH 4 ?_
      refine takeH 5 ?_
      refine takeH 6 ?_
      refine takeH 7 ?_
      refine takeH 8 ?_
      refine takeH 9 ?_
      refine takeH 10 ?_
      refine takeH 11 ?_
      refine wpAnyH_done (by kernel_rfl) ?_ _
      have hZ9 := hZ.keep hHeld
      have k09 := ((bcell hHeld).1 _ _ hg5).trans k0
      have k19 := ((bcell hHeld).1 _ _ hg5).trans k1
      have k29 := ((bcell hHeld).1 _ _ hg5).trans k2
      have hg59 : g5 < wp.drew.heap.size := hg5
      clear hCF hHeld hZ k0 k1 k2 hg5
      obtain ⟨wr0, hwr0⟩ : ∃ x, wp.drew = x := ⟨_, rfl⟩
      rw [hwr0] at hZ9 k09 k19 k29 hg59
      have hZ := hZ9
      have k0 := k09
      have k1 := k19
      have k2 := k29
      have hg5 := hg59
      clear hZ9 k09 k19 k29 hg59
      by_cases hu : ub < 32
      case pos =>
        have hu' : (ub : Int) < 32 := by omega
        have hu2 : ¬ (32 : Int) ≤ (ub : Int) := by omega
        subst hwr0
        obtain ⟨u1, u2, u3, u4⟩ := hdR.out hu
        obtain ⟨q, hq⟩ : ∃ q, F + cb = q := ⟨_, rfl⟩
        rw [hq] at u3 u4
        have hqN : q < N := by omega
        obtain ⟨xw, hxw⟩ : ∃ x, X.getD q 0 = x := ⟨_, rfl⟩
        rw [hxw] at u3 u4
        obtain ⟨sh, hsh⟩ : ∃ a, 24 + jb = a := ⟨_, rfl⟩
        obtain ⟨bt, hbt⟩ : ∃ a, 16777216 * 2 ^ jb = a := ⟨_, rfl⟩
        have hbt2 : bt < 18446744073709551616 := by
          rw [← hbt]
          have : 2 ^ jb ≤ 2 ^ 7 := Nat.pow_le_pow_right (by omega) (by omega)
          have h7 : (2 : Nat) ^ 7 = 128 := by decide
          omega
        have hpw : (2 : Nat) ^ sh = bt := by rw [← hbt, ← hsh, Nat.pow_add]
        have hpwI : (2 : Int) ^ sh = (bt : Int) := by rw [← hpw, Int.natCast_pow]; rfl
        have hshl : IntKind.u64.wrap ((2 : Int) ^ sh) = (bt : Int) := by rw [hpwI, IntKind.wrap_u64]; omega
        obtain ⟨y, hy⟩ : ∃ y, clrW xw jb = y := ⟨_, rfl⟩
        have hand : bits .andNot .u64 (xw : Int) (bt : Int) = (y : Int) := by
          rw [u64_andNot_nat xw bt (by omega) hbt2, ← hy, ← hbt]
          rfl
        rw [hy] at u4
        have hyb : y < 18446744073709551616 := by rw [← hy]; exact Nat.lt_of_le_of_lt Nat.and_le_left (by omega)
        have z1 : (F : Int) + (cb : Int) = (q : Int) := by omega
        have z2 : IntKind.i64.wrap (q : Int) = (q : Int) := wrapQ _ (by omega) (by omega)
        have z3 : (24 : Int) + (jb : Int) = (sh : Int) := by omega
        have z4 : IntKind.i64.wrap (sh : Int) = (sh : Int) := wrapQ _ (by omega) (by omega)
        have z5 : (q : Int) < (N : Int) := by omega
        have z6 : ¬ (sh : Int) < 0 := by omega
        have hS0 := hZ.set q y hqN
        have hWz := hWX.out.setN q y hyb
        have hCF := Lib.hid (fun w' (hb : Below wp.drew.heap.size wp.drew w') => show (w'.cell? ⟨Tb, 0, none⟩ = some (.int .i64 (F : Nat)) ∧ w'.cell? ⟨g5, o5 + i * 3, none⟩ = some (.int .i64 (cb : Nat)) ∧ w'.cell? ⟨g5, o5 + i * 3 + 1, none⟩ = some (.int .i64 (jb : Nat))) ∧ (w'.cell? ⟨B, q, none⟩ = some (.int .u64 (xw : Nat)) ∧ w'.frozen? ⟨B, q, none⟩ = false) from ⟨⟨(row_cell (hZ.keep hb).t 0).1, ((bcell hb).1 _ _ hg5).trans k0, ((bcell hb).1 _ _ hg5).trans k1⟩, by rw [← hxw]; exact (hZ.keep hb).sp.o.cell hZ.sp.l hqN⟩)
        replace hxw := Lib.hid hxw
        replace hsh := Lib.hid hsh
        replace hbt := Lib.hid hbt
        replace hpw := Lib.hid hpw
        replace hpwI := Lib.hid hpwI
        replace hq := Lib.hid hq
        replace hy := Lib.hid hy
        replace u4 := Lib.hid u4
        clear hdR hdH hF5
        go_wp2_with fail
        refine wp_region_tail (S := (fun w' => Below wp.drew.heap.size wp.drew w')) (n := 29) (by kernel_rfl) (Below.refl _ _).drew (fun hHeld hInv => ?_) (by decide)
        refine takeHS 0 hInv ?_; clear hInv; intro hInv
        refine takeHS 1 hInv ?_; clear hInv; intro hInv
        refine takeHS 2 hInv ?_; clear hInv; intro hInv
        refine takeHS 3 hInv ?_; clear hInv; intro hInv
        refine takeHS 4 hInv ?_; clear hInv; intro hInv
        refine takeHS 5 hInv ?_; clear hInv; intro hInv
        refine takeHS 6 hInv ?_; clear hInv; intro hInv
        refine takeHS 7 hInv ?_; clear hInv; intro hInv
        refine takeHS 8 hInv ?_; clear hInv; intro hInv
        refine takeHS 9 hInv ?_; clear hInv; intro hInv
        refine takeHS 10 hInv ?_; clear hInv; intro hInv
        refine takeHS 11 hInv ?_; clear hInv; intro hInv
        refine takeHS 12 hInv ?_; clear hInv; intro hInv
        refine takeHS 13 hInv ?_; clear hInv; intro hInv
        refine takeHS 14 hInv ?_; clear hInv; intro hInv
        refine takeHS 15 hInv ?_; clear hInv; intro hInv
        refine takeHS 16 hInv ?_; clear hInv; intro hInv
        refine takeHS 17 hInv ?_; clear hInv; intro hInv
        refine takeHS 18 hInv ?_; clear hInv; intro hInv
        refine takeHS 19 hInv ?_; clear hInv; intro hInv
        refine takeHS 20 hInv ?_; clear hInv; intro hInv
        refine takeHS 21 hInv ?_; clear hInv; intro hInv
        refine takeHS 22 hInv ?_; clear hInv; intro hInv
        refine takeHS 23 hInv ?_; clear hInv; intro hInv
        refine takeHS 24 hInv ?_; clear hInv; intro hInv
        refine takeHS 25 hInv ?_; clear hInv; intro hInv
        refine takeHS 26 hInv ?_; clear hInv; intro hInv
        refine takeHS 27 hInv ?_; clear hInv; intro hInv
        refine takeHS 28 hInv ?_; clear hInv; intro hInv
        refine lastS 29 rfl (by decide) (by kernel_rfl) (fun K hK => ?_)
        have zz := hCF.out _ hHeld
        obtain ⟨⟨v0, v1, v2⟩, v3, v4⟩ := zz
        go_simp
        refine hK.out _ _ ?_
        clear hK K
        try simp only [Act.put, List.setIfInBounds_toArray, List.set_cons_zero, List.set_cons_succ]
        refine wpAnyS_done (by kernel_rfl) ?_ _
        clear hCF hInv hHeld k0 k1 k2
        have hZn : DrS w C0 #[.int .u8 (s.a : Nat), .int .u8 (s.b : Nat), .slice AT nT cT, .slice AY nY cY, .slice AE nE cE, .int .u32 (s.ep : Nat), .int .u8 (s.root : Nat), .slice AF nF cF] Bs B N c3 Tb #[.int .i64 (F : Nat), .int .i64 (G : Nat)] b1 (.slice (some ⟨g5, o5, none⟩) n c8) R b2 (.slice (some ⟨g6, o6, none⟩) n c9) O (X.set q y) ((wp.setCell ⟨B, q, none⟩ (.int .u64 (y : Nat))).drew.drew) := hS0.keep (Below.refl _ _).drew
        clear hZ hS0
        generalize (wp.setCell ⟨B, q, none⟩ (.int .u64 (y : Nat))).drew.drew = wz at *
        have hZ := hZn
        clear hZn
        replace hshl := Lib.hid hshl
        replace hand := Lib.hid hand
        go_wp2_with fail
        go_loopw [14] (fun k9 wr => k9 = .int .i64 0 ∧ wr = wz) (fun _ _ => 0)
        case atStart => exact ⟨rfl, rfl⟩
        case round =>
          obtain ⟨rfl, rfl⟩ := hrel
          obtain ⟨A5', c5', hv5, hF5⟩ := BKO.formB hZ.l hnR.out
          cases hv5
          obtain ⟨g7, o7, he6, -, hg7, -, -, -, k2⟩ := hF5 wr i (Below.refl _ _) hin
          simp only [Option.some.injEq, Addr.mk.injEq] at he6
          obtain ⟨rfl, rfl, -⟩ := he6
          rw [hb9.out] at k2
          simp only [] at k2
          clear hF5
          have hs7 := u4.out.1 h8p
          clear u4
          have hSo9 := sound_any _ _ wr (hwk.out _ hZ.sp.below) hWz hZ.sp.o.kl (by rw [hZ.sp.l]; omega)
          rw [hs7] at hSo9
          replace hSo9 : Calls Tryz.prog 13 #[.slice (some ⟨B, 0, none⟩) N c3] wr (fun e w' => e = .returned (.int .i64 7) ∧ Below wr.heap.size wr w') := hSo9
          have hBz := hZ.sp.below
          go_wp2_with fail
          refine hSo9.mono ?_
          rintro e9 wa ⟨rfl, hba⟩
          have hBe := hBz.trans (hba.mono hBz.size)
          go_wp2_with fail
          go_ret
          exact ⟨by first | rfl | simp, hBe⟩
      have hu' : ¬ (ub : Int) < 32 := by omega
      have hu2 : (32 : Int) ≤ (ub : Int) := by omega
      subst hwr0
      obtain ⟨u1, u4⟩ := hdH.out (by omega)
      obtain ⟨m, hm⟩ : ∃ m, ub / 32 = m := ⟨_, rfl⟩
      rw [hm] at u1 u4
      obtain ⟨q, hq⟩ : ∃ q, F + cb = q := ⟨_, rfl⟩
      rw [hq] at u4
      have hqN : q + m ≤ N := by omega
      have z1 : (F : Int) + (cb : Int) = (q : Int) := by omega
      have z2 : IntKind.i64.wrap (q : Int) = (q : Int) := wrapQ _ (by omega) (by omega)
      have m1 : (ub : Int).tdiv 32 = (m : Int) := by rw [Int.tdiv_eq_ediv_of_nonneg (by omega)]; omega
      have m2 : (ub : Int) / 32 = (m : Int) := by omega
      have m3 : IntKind.i64.wrap (m : Int) = (m : Int) := wrapQ _ (by omega) (by omega)
      have hWk : Hid (∀ k, WL (zs X q k)) := Lib.hid (fun k => zs_WL hWX.out q k)
      replace hm := Lib.hid hm
      replace hq := Lib.hid hq
      replace u4 := Lib.hid u4
      clear hdR hdH hF5
      go_wp2_with fail
      clear k0 k1 k2
      go_loopw [14] (fun k9 wr => ∃ k : Nat, k ≤ m ∧ k9 = .int .i64 (k : Nat) ∧ DrS w C0 #[.int .u8 (s.a : Nat), .int .u8 (s.b : Nat), .slice AT nT cT, .slice AY nY cY, .slice AE nE cE, .int .u32 (s.ep : Nat), .int .u8 (s.root : Nat), .slice AF nF cF] Bs B N c3 Tb #[.int .i64 (F : Nat), .int .i64 (G : Nat)] b1 (.slice (some ⟨g5, o5, none⟩) n c8) R b2 (.slice (some ⟨g6, o6, none⟩) n c9) O (zs X q k) wr) (fun i _ => m + 1 - (intOf i).toNat)
      case atStart => exact ⟨0, Nat.zero_le _, rfl, hZ⟩
      case round =>
        obtain ⟨k, hk, rfl, hZr⟩ := hrel
        clear hZ
        have hZ := hZr
        clear hZr
        obtain ⟨A5', c5', hv5, hF5⟩ := BKO.formB hZ.l hnR.out
        cases hv5
        obtain ⟨g7, o7, he6, -, hg7, -, k0, -, k2⟩ := hF5 wr i (Below.refl _ _) hin
        simp only [Option.some.injEq, Addr.mk.injEq] at he6
        obtain ⟨rfl, rfl, -⟩ := he6
        rw [hb9.out] at k0 k2
        simp only [] at k0 k2
        clear hF5
        by_cases hkm : k < m
        case pos =>
          have hkm' : (k : Int) < (m : Int) := by omega
          obtain ⟨qk, hqk⟩ : ∃ a, q + k = a := ⟨_, rfl⟩
          have y1 : (q : Int) + (k : Int) = (qk : Int) := by omega
          have y2 : IntKind.i64.wrap (qk : Int) = (qk : Int) := wrapQ _ (by omega) (by omega)
          have y3 : (qk : Int) < (N : Int) := by omega
          have hqkN : qk < N := by omega
          have hSn := hZ.set qk 0 hqkN
          rw [← hqk, show (zs X q k).set (q + k) 0 = zs X q (k + 1) from rfl, hqk] at hSn
          obtain ⟨Xd, hXd⟩ : ∃ x, (zs X q k).getD qk 0 = x := ⟨_, rfl⟩
          have hCF := Lib.hid (fun w' (hb : Below wr.heap.size wr w') => show (w'.cell? ⟨Tb, 0, none⟩ = some (.int .i64 (F : Nat)) ∧ w'.cell? ⟨g5, o5 + i * 3, none⟩ = some (.int .i64 (cb : Nat))) ∧ (w'.cell? ⟨B, qk, none⟩ = some (.int .u64 (Xd : Nat)) ∧ w'.frozen? ⟨B, qk, none⟩ = false) from ⟨⟨(row_cell (hZ.keep hb).t 0).1, ((bcell hb).1 _ _ hg7).trans k0⟩, by rw [← hXd]; exact (hZ.keep hb).sp.o.cell hZ.sp.l hqkN⟩)
          replace hXd := Lib.hid hXd
          replace hqk := Lib.hid hqk
          clear hZ
          go_wp2_with fail
          clear k0 k2
          refine wp_region_tail (S := (fun w' => Below wr.heap.size wr w')) (n := 12) (by kernel_rfl) (Below.refl _ _).drew (fun hHeld hInv => ?_) (by decide)
          refine takeHS 0 hInv ?_; clear hInv; intro hInv
          refine takeHS 1 hInv ?_; clear hInv; intro hInv
          refine takeHS 2 hInv ?_; clear hInv; intro hInv
          refine takeHS 3 hInv ?_; clear hInv; intro hInv
          refine takeHS 4 hInv ?_; clear hInv; intro hInv
          refine takeHS 5 hInv ?_; clear hInv; intro hInv
          refine takeHS 6 hInv ?_; clear hInv; intro hInv
          refine takeHS 7 hInv ?_; clear hInv; intro hInv
          refine takeHS 8 hInv ?_; clear hInv; intro hInv
          refine takeHS 9 hInv ?_; clear hInv; intro hInv
          refine takeHS 10 hInv ?_; clear hInv; intro hInv
          refine takeHS 11 hInv ?_; clear hInv; intro hInv
          refine lastS 12 rfl (by decide) (by kernel_rfl) (fun K hK => ?_)
          have zz := hCF.out _ hHeld
          obtain ⟨⟨v0, v1⟩, v3, v4⟩ := zz
          go_simp
          refine hK.out _ _ ?_
          clear hK K
          try simp only [Act.put, List.setIfInBounds_toArray, List.set_cons_zero, List.set_cons_succ]
          refine wpAnyS_done (by kernel_rfl) ?_ _
          clear hCF hInv hHeld
          go_wp2_with fail
          go_roundw
          case rel => exact ⟨k + 1, by omega, by go_num, hSn.keep (Below.refl _ _).drew⟩
          case measure => first | (simp [intOf]; done) | (simp [intOf]; omega)
        obtain rfl : m = k := by omega
        have hkm' : ¬ (m : Int) < (m : Int) := by omega
        have hWz := hWk.out m
        clear k0
        have hs7 := u4.out.1 h8p
        clear u4
        have hSo9 := sound_any _ _ wr (hwk.out _ hZ.sp.below) hWz hZ.sp.o.kl (by rw [hZ.sp.l]; omega)
        rw [hs7] at hSo9
        replace hSo9 : Calls Tryz.prog 13 #[.slice (some ⟨B, 0, none⟩) N c3] wr (fun e w' => e = .returned (.int .i64 7) ∧ Below wr.heap.size wr w') := hSo9
        have hBz := hZ.sp.below
        go_wp2_with fail
        refine hSo9.mono ?_
        rintro e9 wa ⟨rfl, hba⟩
        have hBe := hBz.trans (hba.mono hBz.size)
        go_wp2_with fail
        go_ret
        exact ⟨by first | rfl | simp, hBe⟩
    have h8q : ¬ (x8 : Int) = (p : Int) := by omega
    have h8r : ((x8 : Int) == (p : Int)) = false := beq_eq_false_iff_ne.2 h8q
    go_wp2_with fail
    refine wp_region_held_drew (S := (fun w' => Below wp.heap.size wp w')) (by kernel_rfl) (Below.refl _ _).drew (fun hHeld => ?_)
    refine takeH 0 ?_
    refine takeH 1 ?_
    refine takeH 2 ?_
    refine takeH 3 ?_
    refine takeH 4 ?_
    refine takeH 5 ?_
    refine takeH 6 ?_
    refine takeH 7 ?_
    refine takeH 8 ?_
    refine takeH 9 ?_
    refine takeH 10 ?_
    refine takeH 11 ?_
    refine wpAnyH_done (by kernel_rfl) ?_ _
    have hZ9 := hZ.keep hHeld
    have k09 := ((bcell hHeld).1 _ _ hg5).trans k0
    have k19 := ((bcell hHeld).1 _ _ hg5).trans k1
    have k29 := ((bcell hHeld).1 _ _ hg5).trans k2
    have hg59 : g5 < wp.drew.heap.size := hg5
    clear hCF hHeld hZ k0 k1 k2 hg5
    obtain ⟨wr0, hwr0⟩ : ∃ x, wp.drew = x := ⟨_, rfl⟩
    rw [hwr0] at hZ9 k09 k19 k29 hg59
    have hZ := hZ9
    have k0 := k09
    have k1 := k19
    have k2 := k29
    have hg5 := hg59
    clear hZ9 k09 k19 k29 hg59
    by_cases hu : ub < 32
    case pos =>
      have hu' : (ub : Int) < 32 := by omega
      have hu2 : ¬ (32 : Int) ≤ (ub : Int) := by omega
      subst hwr0
      obtain ⟨u1, u2, u3, u4⟩ := hdR.out hu
      obtain ⟨q, hq⟩ : ∃ q, F + cb = q := ⟨_, rfl⟩
      rw [hq] at u3 u4
      have hqN : q < N := by omega
      obtain ⟨xw, hxw⟩ : ∃ x, X.getD q 0 = x := ⟨_, rfl⟩
      rw [hxw] at u3 u4
      obtain ⟨sh, hsh⟩ : ∃ a, 24 + jb = a := ⟨_, rfl⟩
      obtain ⟨bt, hbt⟩ : ∃ a, 16777216 * 2 ^ jb = a := ⟨_, rfl⟩
      have hbt2 : bt < 18446744073709551616 := by
        rw [← hbt]
        have : 2 ^ jb ≤ 2 ^ 7 := Nat.pow_le_pow_right (by omega) (by omega)
        have h7 : (2 : Nat) ^ 7 = 128 := by decide
        omega
      have hpw : (2 : Nat) ^ sh = bt := by rw [← hbt, ← hsh, Nat.pow_add]
      have hpwI : (2 : Int) ^ sh = (bt : Int) := by rw [← hpw, Int.natCast_pow]; rfl
      have hshl : IntKind.u64.wrap ((2 : Int) ^ sh) = (bt : Int) := by rw [hpwI, IntKind.wrap_u64]; omega
      obtain ⟨y, hy⟩ : ∃ y, clrW xw jb = y := ⟨_, rfl⟩
      have hand : bits .andNot .u64 (xw : Int) (bt : Int) = (y : Int) := by
        rw [u64_andNot_nat xw bt (by omega) hbt2, ← hy, ← hbt]
        rfl
      rw [hy] at u4
      have hyb : y < 18446744073709551616 := by rw [← hy]; exact Nat.lt_of_le_of_lt Nat.and_le_left (by omega)
      have z1 : (F : Int) + (cb : Int) = (q : Int) := by omega
      have z2 : IntKind.i64.wrap (q : Int) = (q : Int) := wrapQ _ (by omega) (by omega)
      have z3 : (24 : Int) + (jb : Int) = (sh : Int) := by omega
      have z4 : IntKind.i64.wrap (sh : Int) = (sh : Int) := wrapQ _ (by omega) (by omega)
      have z5 : (q : Int) < (N : Int) := by omega
      have z6 : ¬ (sh : Int) < 0 := by omega
      have hS0 := hZ.set q y hqN
      have hWz := hWX.out.setN q y hyb
      have hCF := Lib.hid (fun w' (hb : Below wp.drew.heap.size wp.drew w') => show (w'.cell? ⟨Tb, 0, none⟩ = some (.int .i64 (F : Nat)) ∧ w'.cell? ⟨g5, o5 + i * 3, none⟩ = some (.int .i64 (cb : Nat)) ∧ w'.cell? ⟨g5, o5 + i * 3 + 1, none⟩ = some (.int .i64 (jb : Nat))) ∧ (w'.cell? ⟨B, q, none⟩ = some (.int .u64 (xw : Nat)) ∧ w'.frozen? ⟨B, q, none⟩ = false) from ⟨⟨(row_cell (hZ.keep hb).t 0).1, ((bcell hb).1 _ _ hg5).trans k0, ((bcell hb).1 _ _ hg5).trans k1⟩, by rw [← hxw]; exact (hZ.keep hb).sp.o.cell hZ.sp.l hqN⟩)
      replace hxw := Lib.hid hxw
      replace hsh := Lib.hid hsh
      replace hbt := Lib.hid hbt
      replace hpw := Lib.hid hpw
      replace hpwI := Lib.hid hpwI
      replace hq := Lib.hid hq
      replace hy := Lib.hid hy
      replace u4 := Lib.hid u4
      clear hdR hdH hF5
      go_wp2_with fail
      refine wp_region_tail (S := (fun w' => Below wp.drew.heap.size wp.drew w')) (n := 29) (by kernel_rfl) (Below.refl _ _).drew (fun hHeld hInv => ?_) (by decide)
      refine takeHS 0 hInv ?_; clear hInv; intro hInv
      refine takeHS 1 hInv ?_; clear hInv; intro hInv
      refine takeHS 2 hInv ?_; clear hInv; intro hInv
      refine takeHS 3 hInv ?_; clear hInv; intro hInv
      refine takeHS 4 hInv ?_; clear hInv; intro hInv
      refine takeHS 5 hInv ?_; clear hInv; intro hInv
      refine takeHS 6 hInv ?_; clear hInv; intro hInv
      refine takeHS 7 hInv ?_; clear hInv; intro hInv
      refine takeHS 8 hInv ?_; clear hInv; intro hInv
      refine takeHS 9 hInv ?_; clear hInv; intro hInv
      refine takeHS 10 hInv ?_; clear hInv; intro hInv
      refine takeHS 11 hInv ?_; clear hInv; intro hInv
      refine takeHS 12 hInv ?_; clear hInv; intro hInv
      refine takeHS 13 hInv ?_; clear hInv; intro hInv
      refine takeHS 14 hInv ?_; clear hInv; intro hInv
      refine takeHS 15 hInv ?_; clear hInv; intro hInv
      refine takeHS 16 hInv ?_; clear hInv; intro hInv
      refine takeHS 17 hInv ?_; clear hInv; intro hInv
      refine takeHS 18 hInv ?_; clear hInv; intro hInv
      refine takeHS 19 hInv ?_; clear hInv; intro hInv
      refine takeHS 20 hInv ?_; clear hInv; intro hInv
      refine takeHS 21 hInv ?_; clear hInv; intro hInv
      refine takeHS 22 hInv ?_; clear hInv; intro hInv
      refine takeHS 23 hInv ?_; clear hInv; intro hInv
      refine takeHS 24 hInv ?_; clear hInv; intro hInv
      refine takeHS 25 hInv ?_; clear hInv; intro hInv
      refine takeHS 26 hInv ?_; clear hInv; intro hInv
      refine takeHS 27 hInv ?_; clear hInv; intro hInv
      refine takeHS 28 hInv ?_; clear hInv; intro hInv
      refine lastS 29 rfl (by decide) (by kernel_rfl) (fun K hK => ?_)
      have zz := hCF.out _ hHeld
      obtain ⟨⟨v0, v1, v2⟩, v3, v4⟩ := zz
      go_simp
      refine hK.out _ _ ?_
      clear hK K
      try simp only [Act.put, List.setIfInBounds_toArray, List.set_cons_zero, List.set_cons_succ]
      refine wpAnyS_done (by kernel_rfl) ?_ _
      clear hCF hInv hHeld k0 k1 k2
      have hZn : DrS w C0 #[.int .u8 (s.a : Nat), .int .u8 (s.b : Nat), .slice AT nT cT, .slice AY nY cY, .slice AE nE cE, .int .u32 (s.ep : Nat), .int .u8 (s.root : Nat), .slice AF nF cF] Bs B N c3 Tb #[.int .i64 (F : Nat), .int .i64 (G : Nat)] b1 (.slice (some ⟨g5, o5, none⟩) n c8) R b2 (.slice (some ⟨g6, o6, none⟩) n c9) O (X.set q y) ((wp.setCell ⟨B, q, none⟩ (.int .u64 (y : Nat))).drew.drew) := hS0.keep (Below.refl _ _).drew
      clear hZ hS0
      generalize (wp.setCell ⟨B, q, none⟩ (.int .u64 (y : Nat))).drew.drew = wz at *
      have hZ := hZn
      clear hZn
      replace hshl := Lib.hid hshl
      replace hand := Lib.hid hand
      go_wp2_with fail
      go_loopw [14] (fun k9 wr => k9 = .int .i64 0 ∧ wr = wz) (fun _ _ => 0)
      case atStart => exact ⟨rfl, rfl⟩
      case round =>
        obtain ⟨rfl, rfl⟩ := hrel
        obtain ⟨A5', c5', hv5, hF5⟩ := BKO.formB hZ.l hnR.out
        cases hv5
        obtain ⟨g7, o7, he6, -, hg7, -, -, -, k2⟩ := hF5 wr i (Below.refl _ _) hin
        simp only [Option.some.injEq, Addr.mk.injEq] at he6
        obtain ⟨rfl, rfl, -⟩ := he6
        rw [hb9.out] at k2
        simp only [] at k2
        clear hF5
        obtain ⟨hs7, hoY⟩ := u4.out.2 h8p
        rw [hOX.out] at hoY
        clear u4
        have hz1 := run_slice_to (P := Tryz.prog) Tryz.underlying39 hji (some ⟨g6, o6, none⟩) n c9 i (by omega)
        have hz2 := run_slice_from9 (P := Tryz.prog) Tryz.underlying39 hji hj1 (some ⟨g6, o6, none⟩) n c9 (i + 1) (by omega)
        obtain ⟨i1, hi1⟩ : ∃ k, i + 1 = k := ⟨_, rfl⟩
        rw [hi1] at hz2
        have z1 : (i : Int) + 1 = (i1 : Int) := by omega
        have z2 : IntKind.i64.wrap (i1 : Int) = (i1 : Int) := wrapQ _ (by omega) (by omega)
        have hb2w : b2 ≤ wr.heap.size := hZ.h4
        obtain ⟨v1, y1, v2, y2, hrun1, hrun2, hJ2, hy1, hy2⟩ := newJ (w := wr.drew) (hZ.o.keep (Below.refl _ _).drew) hn.out hin hb2w (by omega)
        rw [hi1] at hrun2
        obtain ⟨Aq, hAq⟩ : ∃ A, (if c9 = i1 then (some ⟨g6, o6, none⟩ : Option Addr) else (some ⟨g6, o6, none⟩ : Option Addr).map (·.add (i1 * 4))) = A := ⟨_, rfl⟩
        obtain ⟨nq, hnq⟩ : ∃ k, n - i1 = k := ⟨_, rfl⟩
        obtain ⟨cq, hcq⟩ : ∃ k, c9 - i1 = k := ⟨_, rfl⟩
        rw [hAq, hnq, hcq] at hrun2
        replace hz2 : ∀ w1, (Instr.slice 39 (.slice (some ⟨g6, o6, none⟩) n c9) (some (.int .i64 (i1 : Int))) none none).run Tryz.prog w1 = .ok (.slice Aq nq cq) w1 := fun w1 => by
          have h := hz2 w1
          rw [hAq, hnq, hcq] at h
          exact h
        clear hAq hnq hcq hi1
        have hCF := Lib.hid (fun w' (hb : Below wr.heap.size wr w') => trivial)
        go_wp2_with fail
        refine wp_region_held_drew (S := (fun w' => Below wr.heap.size wr w')) (by kernel_rfl) (Below.refl _ _).drew (fun hHeld => ?_)
        refine takeH 1 ?_
        refine takeH 2 ?_
        refine takeH 3 ?_
        refine takeH 5 ?_
        refine takeH 6 ?_
        refine takeH 7 ?_
        refine takeH 8 ?_
        refine oneL 0 rfl (by kernel_rfl) (fun K hK => ?_)
        go_simp
        have hb := (Below.refl wr.drew.heap.size wr.drew).alloc (Nat.le_refl _) (.cells #[] (64 : Nat))
        refine hK.out _ _ (hHeld.trans (hb.mono hHeld.size)) (fun hHeld2 => ?_)
        clear hK K hHeld
        have hHeld := hHeld2
        clear hHeld2
        try simp only [Act.put, List.setIfInBounds_toArray, List.set_cons_zero, List.set_cons_succ]
        refine oneL 4 rfl (by kernel_rfl) (fun K hK => ?_)
        rw [if_pos (by rfl)]
        refine wp_append_run _ _ _ _ rfl _ _ _ rfl rfl hrun1 ?_
        refine hK.out _ _ ((Below.refl _ _).drew.trans hy1) (fun hHeld2 => ?_)
        clear hK K hHeld
        have hHeld := hHeld2
        clear hHeld2
        try simp only [Act.put, List.setIfInBounds_toArray, List.set_cons_zero, List.set_cons_succ]
        refine oneL 9 rfl (by kernel_rfl) (fun K hK => ?_)
        rw [if_pos (by rfl)]
        refine wp_append_run _ _ _ _ rfl _ _ _ rfl rfl hrun2 ?_
        refine hK.out _ _ ((Below.refl _ _).drew.trans hy2) (fun hHeld2 => ?_)
        clear hK K hHeld
        have hHeld := hHeld2
        clear hHeld2
        try simp only [Act.put, List.setIfInBounds_toArray, List.set_cons_zero, List.set_cons_succ]
        refine takeH 10 ?_
        refine wpAnyH_done (by kernel_rfl) ?_ _
        have hZ2 := hZ.keep hHeld
        clear hCF hHeld hrun1 hrun2 hy1 hy2 hz1 hz2 hZ
        have hSo9 := sound_any _ _ y2 (hwk.out _ hZ2.sp.below) hWz hZ2.sp.o.kl (by rw [hZ2.sp.l]; omega)
        rw [hs7] at hSo9
        replace hSo9 : Calls Tryz.prog 13 #[.slice (some ⟨B, 0, none⟩) N c3] y2 (fun e w' => e = .returned (.int .i64 0) ∧ Below y2.heap.size y2 w') := hSo9
        go_wp2_with fail
        refine hSo9.mono ?_
        rintro e9 wa ⟨rfl, hba⟩
        have hZ3 := hZ2.keep hba
        have hJ3 := hJ2.keep hba
        have hOb9 := Objects_any _ _ wa (hwk.out _ hZ3.sp.below) hWz hZ3.sp.o.kl (by rw [hZ3.sp.l]; omega)
        rw [hoY] at hOb9
        have hBa := hZ3.sp.below
        clear hSo9 hba hZ2 hJ2 hZ3
        go_wp2_with fail
        refine hOb9.mono ?_
        rintro e9 wb ⟨vb, rfl, hob, hbb⟩
        have hSm := Same_any _ _ _ _ _ _ hob (hJ3.keep hbb) (by rw [List.length_append, List.length_take, List.length_drop, hn.out]; omega) (fun x hx => hOd.out x (by
          rcases List.mem_append.1 hx with q | q
          · exact List.mem_of_mem_take q
          · exact List.mem_of_mem_drop q))
        have hBb := hBa.trans (hbb.mono hBa.size)
        clear hOb9 hbb hob hJ3 hBa
        go_wp2_with fail
        refine hSm.mono ?_
        rintro e9 wc ⟨rfl, hbc⟩
        have hBe := hBb.trans (hbc.mono hBb.size)
        go_wp2_with fail
        go_ret
        exact ⟨by first | rfl | simp, hBe⟩
    have hu' : ¬ (ub : Int) < 32 := by omega
    have hu2 : (32 : Int) ≤ (ub : Int) := by omega
    subst hwr0
    obtain ⟨u1, u4⟩ := hdH.out (by omega)
    obtain ⟨m, hm⟩ : ∃ m, ub / 32 = m := ⟨_, rfl⟩
    rw [hm] at u1 u4
    obtain ⟨q, hq⟩ : ∃ q, F + cb = q := ⟨_, rfl⟩
    rw [hq] at u4
    have hqN : q + m ≤ N := by omega
    have z1 : (F : Int) + (cb : Int) = (q : Int) := by omega
    have z2 : IntKind.i64.wrap (q : Int) = (q : Int) := wrapQ _ (by omega) (by omega)
    have m1 : (ub : Int).tdiv 32 = (m : Int) := by rw [Int.tdiv_eq_ediv_of_nonneg (by omega)]; omega
    have m2 : (ub : Int) / 32 = (m : Int) := by omega
    have m3 : IntKind.i64.wrap (m : Int) = (m : Int) := wrapQ _ (by omega) (by omega)
    have hWk : Hid (∀ k, WL (zs X q k)) := Lib.hid (fun k => zs_WL hWX.out q k)
    replace hm := Lib.hid hm
    replace hq := Lib.hid hq
    replace u4 := Lib.hid u4
    clear hdR hdH hF5
    go_wp2_with fail
    clear k0 k1 k2
    go_loopw [14] (fun k9 wr => ∃ k : Nat, k ≤ m ∧ k9 = .int .i64 (k : Nat) ∧ DrS w C0 #[.int .u8 (s.a : Nat), .int .u8 (s.b : Nat), .slice AT nT cT, .slice AY nY cY, .slice AE nE cE, .int .u32 (s.ep : Nat), .int .u8 (s.root : Nat), .slice AF nF cF] Bs B N c3 Tb #[.int .i64 (F : Nat), .int .i64 (G : Nat)] b1 (.slice (some ⟨g5, o5, none⟩) n c8) R b2 (.slice (some ⟨g6, o6, none⟩) n c9) O (zs X q k) wr) (fun i _ => m + 1 - (intOf i).toNat)
    case atStart => exact ⟨0, Nat.zero_le _, rfl, hZ⟩
    case round =>
      obtain ⟨k, hk, rfl, hZr⟩ := hrel
      clear hZ
      have hZ := hZr
      clear hZr
      obtain ⟨A5', c5', hv5, hF5⟩ := BKO.formB hZ.l hnR.out
      cases hv5
      obtain ⟨g7, o7, he6, -, hg7, -, k0, -, k2⟩ := hF5 wr i (Below.refl _ _) hin
      simp only [Option.some.injEq, Addr.mk.injEq] at he6
      obtain ⟨rfl, rfl, -⟩ := he6
      rw [hb9.out] at k0 k2
      simp only [] at k0 k2
      clear hF5
      by_cases hkm : k < m
      case pos =>
        have hkm' : (k : Int) < (m : Int) := by omega
        obtain ⟨qk, hqk⟩ : ∃ a, q + k = a := ⟨_, rfl⟩
        have y1 : (q : Int) + (k : Int) = (qk : Int) := by omega
        have y2 : IntKind.i64.wrap (qk : Int) = (qk : Int) := wrapQ _ (by omega) (by omega)
        have y3 : (qk : Int) < (N : Int) := by omega
        have hqkN : qk < N := by omega
        have hSn := hZ.set qk 0 hqkN
        rw [← hqk, show (zs X q k).set (q + k) 0 = zs X q (k + 1) from rfl, hqk] at hSn
        obtain ⟨Xd, hXd⟩ : ∃ x, (zs X q k).getD qk 0 = x := ⟨_, rfl⟩
        have hCF := Lib.hid (fun w' (hb : Below wr.heap.size wr w') => show (w'.cell? ⟨Tb, 0, none⟩ = some (.int .i64 (F : Nat)) ∧ w'.cell? ⟨g5, o5 + i * 3, none⟩ = some (.int .i64 (cb : Nat))) ∧ (w'.cell? ⟨B, qk, none⟩ = some (.int .u64 (Xd : Nat)) ∧ w'.frozen? ⟨B, qk, none⟩ = false) from ⟨⟨(row_cell (hZ.keep hb).t 0).1, ((bcell hb).1 _ _ hg7).trans k0⟩, by rw [← hXd]; exact (hZ.keep hb).sp.o.cell hZ.sp.l hqkN⟩)
        replace hXd := Lib.hid hXd
        replace hqk := Lib.hid hqk
        clear hZ
        go_wp2_with fail
        clear k0 k2
        refine wp_region_tail (S := (fun w' => Below wr.heap.size wr w')) (n := 12) (by kernel_rfl) (Below.refl _ _).drew (fun hHeld hInv => ?_) (by decide)
        refine takeHS 0 hInv ?_; clear hInv; intro hInv
        refine takeHS 1 hInv ?_; clear hInv; intro hInv
        refine takeHS 2 hInv ?_; clear hInv; intro hInv
        refine takeHS 3 hInv ?_; clear hInv; intro hInv
        refine takeHS 4 hInv ?_; clear hInv; intro hInv
        refine takeHS 5 hInv ?_; clear hInv; intro hInv
        refine takeHS 6 hInv ?_; clear hInv; intro hInv
        refine takeHS 7 hInv ?_; clear hInv; intro hInv
        refine takeHS 8 hInv ?_; clear hInv; intro hInv
        refine takeHS 9 hInv ?_; clear hInv; intro hInv
        refine takeHS 10 hInv ?_; clear hInv; intro hInv
        refine takeHS 11 hInv ?_; clear hInv; intro hInv
        refine lastS 12 rfl (by decide) (by kernel_rfl) (fun K hK => ?_)
        have zz := hCF.out _ hHeld
        obtain ⟨⟨v0, v1⟩, v3, v4⟩ := zz
        go_simp
        refine hK.out _ _ ?_
        clear hK K
        try simp only [Act.put, List.setIfInBounds_toArray, List.set_cons_zero, List.set_cons_succ]
        refine wpAnyS_done (by kernel_rfl) ?_ _
        clear hCF hInv hHeld
        go_wp2_with fail
        go_roundw
        case rel => exact ⟨k + 1, by omega, by go_num, hSn.keep (Below.refl _ _).drew⟩
        case measure => first | (simp [intOf]; done) | (simp [intOf]; omega)
      obtain rfl : m = k := by omega
      have hkm' : ¬ (m : Int) < (m : Int) := by omega
      have hWz := hWk.out m
      clear k0
      obtain ⟨hs7, hoY⟩ := u4.out.2 h8p
      rw [hOX.out] at hoY
      clear u4
      have hz1 := run_slice_to (P := Tryz.prog) Tryz.underlying39 hji (some ⟨g6, o6, none⟩) n c9 i (by omega)
      have hz2 := run_slice_from9 (P := Tryz.prog) Tryz.underlying39 hji hj1 (some ⟨g6, o6, none⟩) n c9 (i + 1) (by omega)
      obtain ⟨i1, hi1⟩ : ∃ k, i + 1 = k := ⟨_, rfl⟩
      rw [hi1] at hz2
      have z1 : (i : Int) + 1 = (i1 : Int) := by omega
      have z2 : IntKind.i64.wrap (i1 : Int) = (i1 : Int) := wrapQ _ (by omega) (by omega)
      have hb2w : b2 ≤ wr.heap.size := hZ.h4
      obtain ⟨v1, y1, v2, y2, hrun1, hrun2, hJ2, hy1, hy2⟩ := newJ (w := wr.drew) (hZ.o.keep (Below.refl _ _).drew) hn.out hin hb2w (by omega)
      rw [hi1] at hrun2
      obtain ⟨Aq, hAq⟩ : ∃ A, (if c9 = i1 then (some ⟨g6, o6, none⟩ : Option Addr) else (some ⟨g6, o6, none⟩ : Option Addr).map (·.add (i1 * 4))) = A := ⟨_, rfl⟩
      obtain ⟨nq, hnq⟩ : ∃ k, n - i1 = k := ⟨_, rfl⟩
      obtain ⟨cq, hcq⟩ : ∃ k, c9 - i1 = k := ⟨_, rfl⟩
      rw [hAq, hnq, hcq] at hrun2
      replace hz2 : ∀ w1, (Instr.slice 39 (.slice (some ⟨g6, o6, none⟩) n c9) (some (.int .i64 (i1 : Int))) none none).run Tryz.prog w1 = .ok (.slice Aq nq cq) w1 := fun w1 => by
        have h := hz2 w1
        rw [hAq, hnq, hcq] at h
        exact h
      clear hAq hnq hcq hi1
      have hCF := Lib.hid (fun w' (hb : Below wr.heap.size wr w') => trivial)
      go_wp2_with fail
      refine wp_region_held_drew (S := (fun w' => Below wr.heap.size wr w')) (by kernel_rfl) (Below.refl _ _).drew (fun hHeld => ?_)
      refine takeH 1 ?_
      refine takeH 2 ?_
      refine takeH 3 ?_
      refine takeH 5 ?_
      refine takeH 6 ?_
      refine takeH 7 ?_
      refine takeH 8 ?_
      refine oneL 0 rfl (by kernel_rfl) (fun K hK => ?_)
      go_simp
      have hb := (Below.refl wr.drew.heap.size wr.drew).alloc (Nat.le_refl _) (.cells #[] (64 : Nat))
      refine hK.out _ _ (hHeld.trans (hb.mono hHeld.size)) (fun hHeld2 => ?_)
      clear hK K hHeld
      have hHeld := hHeld2
      clear hHeld2
      try simp only [Act.put, List.setIfInBounds_toArray, List.set_cons_zero, List.set_cons_succ]
      refine oneL 4 rfl (by kernel_rfl) (fun K hK => ?_)
      rw [if_pos (by rfl)]
      refine wp_append_run _ _ _ _ rfl _ _ _ rfl rfl hrun1 ?_
      refine hK.out _ _ ((Below.refl _ _).drew.trans hy1) (fun hHeld2 => ?_)
      clear hK K hHeld
      have hHeld := hHeld2
      clear hHeld2
      try simp only [Act.put, List.setIfInBounds_toArray, List.set_cons_zero, List.set_cons_succ]
      refine oneL 9 rfl (by kernel_rfl) (fun K hK => ?_)
      rw [if_pos (by rfl)]
      refine wp_append_run _ _ _ _ rfl _ _ _ rfl rfl hrun2 ?_
      refine hK.out _ _ ((Below.refl _ _).drew.trans hy2) (fun hHeld2 => ?_)
      clear hK K hHeld
      have hHeld := hHeld2
      clear hHeld2
      try simp only [Act.put, List.setIfInBounds_toArray, List.set_cons_zero, List.set_cons_succ]
      refine takeH 10 ?_
      refine wpAnyH_done (by kernel_rfl) ?_ _
      have hZ2 := hZ.keep hHeld
      clear hCF hHeld hrun1 hrun2 hy1 hy2 hz1 hz2 hZ
      have hSo9 := sound_any _ _ y2 (hwk.out _ hZ2.sp.below) hWz hZ2.sp.o.kl (by rw [hZ2.sp.l]; omega)
      rw [hs7] at hSo9
      replace hSo9 : Calls Tryz.prog 13 #[.slice (some ⟨B, 0, none⟩) N c3] y2 (fun e w' => e = .returned (.int .i64 0) ∧ Below y2.heap.size y2 w') := hSo9
      go_wp2_with fail
      refine hSo9.mono ?_
      rintro e9 wa ⟨rfl, hba⟩
      have hZ3 := hZ2.keep hba
      have hJ3 := hJ2.keep hba
      have hOb9 := Objects_any _ _ wa (hwk.out _ hZ3.sp.below) hWz hZ3.sp.o.kl (by rw [hZ3.sp.l]; omega)
      rw [hoY] at hOb9
      have hBa := hZ3.sp.below
      clear hSo9 hba hZ2 hJ2 hZ3
      go_wp2_with fail
      refine hOb9.mono ?_
      rintro e9 wb ⟨vb, rfl, hob, hbb⟩
      have hSm := Same_any _ _ _ _ _ _ hob (hJ3.keep hbb) (by rw [List.length_append, List.length_take, List.length_drop, hn.out]; omega) (fun x hx => hOd.out x (by
        rcases List.mem_append.1 hx with q | q
        · exact List.mem_of_mem_take q
        · exact List.mem_of_mem_drop q))
      have hBb := hBa.trans (hbb.mono hBa.size)
      clear hOb9 hbb hob hJ3 hBa
      go_wp2_with fail
      refine hSm.mono ?_
      rintro e9 wc ⟨rfl, hbc⟩
      have hBe := hBb.trans (hbc.mono hBb.size)
      go_wp2_with fail
      go_ret
      exact ⟨by first | rfl | simp, hBe⟩
end Go.Proofs.YtdmmbnnejbmdpaaGreatDoor
end
