/-
  Part of the proof of SoundPlaces.
-/
import Derived.Laws.BitsAllLaws
import Derived.Laws.ShiftsVarLaws
import Derived.Handy
import Derived.Test.YtdmmbnnejbmdpaaGreatDoorVs0
set_option linter.unusedVariables false
set_option linter.unusedSimpArgs false
section
namespace Go.Proofs.YtdmmbnnejbmdpaaGreatDoor
def getN (w a m : Nat) : Nat := w / 2 ^ a % 2 ^ m
def putN (w a m v : Nat) : Nat := w % 2 ^ a + v % 2 ^ m * 2 ^ a + w / 2 ^ (a + m) * 2 ^ (a + m)
theorem pow_le64 {k : Nat} (h : k ≤ 64) : 2 ^ k ≤ 18446744073709551616 := by
 have := Nat.pow_le_pow_right (by omega : 2 > 0) (show k ≤ 64 by omega)
 simpa using this
theorem pow_lt64 {k : Nat} (h : k < 64) : 2 ^ k ≤ 9223372036854775808 := by
 have := Nat.pow_le_pow_right (by omega : 2 > 0) (show k ≤ 63 by omega)
 simpa using this
theorem putN_eq (w a m v : Nat) : putN w a m v = 2 ^ a * (2 ^ m * (w / 2 ^ (a + m)) + v % 2 ^ m) + w % 2 ^ a := by
 unfold putN
 rw [Nat.mul_add, ← Nat.mul_assoc, ← Nat.pow_add, Nat.mul_comm (v % 2 ^ m), Nat.mul_comm (w / 2 ^ (a + m))]
 omega
theorem putN_testBit (w a m v i : Nat) : (putN w a m v).testBit i = if a ≤ i ∧ i < a + m then v.testBit (i - a) else w.testBit i := by
 rw [putN_eq, Nat.testBit_two_pow_mul_add _ (Nat.mod_lt _ (Nat.pow_pos (by omega)))]
 by_cases h : i < a
 ·rw [if_pos h, if_neg (by omega), Nat.testBit_mod_two_pow]; simp [h]
 ·rw [if_neg h, Nat.testBit_two_pow_mul_add _ (Nat.mod_lt _ (Nat.pow_pos (by omega)))]
  by_cases h2 : i - a < m
  ·rw [if_pos h2, if_pos (by omega), Nat.testBit_mod_two_pow]; simp [h2]
  ·rw [if_neg h2, if_neg (by omega), Nat.testBit_div_two_pow]
   congr 1; omega
theorem getN_lt (w a m : Nat) : getN w a m < 2 ^ m := Nat.mod_lt _ (Nat.pow_pos (by omega))
theorem put_bits (w a m v : Nat) (hw : w < 18446744073709551616) (h : a + m ≤ 64) :
 (w &&& (18446744073709551615 - (2 ^ m - 1) * 2 ^ a)) ||| (v % 2 ^ m * 2 ^ a) = putN w a m v := by
 apply Nat.eq_of_testBit_eq
 intro i
 have hb : (2 ^ m - 1) * 2 ^ a < 2 ^ 64 := by
  have h1 : (2 ^ m - 1) * 2 ^ a < 2 ^ m * 2 ^ a := Nat.mul_lt_mul_of_pos_right (by have := Nat.pow_pos (n := m) (a := 2) (by omega); omega) (Nat.pow_pos (by omega))
  have h2 : 2 ^ m * 2 ^ a ≤ 2 ^ 64 := by rw [← Nat.pow_add]; exact Nat.pow_le_pow_right (by omega) (by omega)
  omega
 have e : 18446744073709551615 - (2 ^ m - 1) * 2 ^ a = 2 ^ 64 - ((2 ^ m - 1) * 2 ^ a + 1) := by omega
 rw [putN_testBit, Nat.testBit_or, Nat.testBit_and, e, Nat.testBit_two_pow_sub_succ hb, Nat.testBit_mul_two_pow, Nat.testBit_mul_two_pow, Nat.testBit_two_pow_sub_one, Nat.testBit_mod_two_pow]
 have hi64 : ¬ i < 64 → w.testBit i = false := fun hi => Nat.testBit_lt_two_pow (Nat.lt_of_lt_of_le hw (Nat.pow_le_pow_right (by omega : 2 > 0) (show 64 ≤ i by omega)))
 by_cases h1 : a ≤ i
 ·by_cases h2 : i - a < m
  ·rw [if_pos (by omega)]; simp [h1, h2]
  ·rw [if_neg (by omega)]
   by_cases h3 : i < 64
   ·simp [h1, h2, h3]
   ·simp [h1, h2, h3, hi64 h3]
 ·rw [if_neg (by omega)]
  by_cases h3 : i < 64
  ·simp [h1, h3]
  ·simp [h1, h3, hi64 h3]
theorem pow_cast (k : Nat) : ((2 : Int) ^ k) = ((2 ^ k : Nat) : Int) := by simp
theorem low_walk (x : Int) (k : Nat) (h0 : 0 ≤ x) (h1 : x < 18446744073709551616) (h : k < 64) :
 bits .and .u64 x (IntKind.u64.wrap (IntKind.u64.wrap (2 ^ k) - 1)) = x % 2 ^ k := by
 have hp := pow_lt64 h
 have hq : 0 < 2 ^ k := Nat.pow_pos (n := k) (a := 2) (by omega)
 obtain ⟨X, rfl⟩ := Int.eq_ofNat_of_zero_le h0
 rw [pow_cast, IntKind.wrap_u64, IntKind.wrap_u64, Int.emod_eq_of_lt (by omega) (by omega), Int.emod_eq_of_lt (by omega) (by omega)]
 have e : ((2 ^ k : Nat) : Int) - 1 = ((2 ^ k - 1 : Nat) : Int) := by omega
 rw [e, u64_and_nat X (2 ^ k - 1) (by omega) (by omega), Nat.and_two_pow_sub_one_eq_mod]
 exact Int.natCast_emod _ _
theorem shr_bd (x : Int) (k : Nat) (h0 : 0 ≤ x) (h1 : x < 18446744073709551616) : 0 ≤ x / 2 ^ k ∧ x / 2 ^ k < 18446744073709551616 := by
 obtain ⟨X, rfl⟩ := Int.eq_ofNat_of_zero_le h0
 have h : X / 2 ^ k ≤ X := Nat.div_le_self _ _
 rw [pow_cast, ← Int.natCast_ediv]
 exact ⟨Int.natCast_nonneg _, Int.lt_of_le_of_lt (Int.ofNat_le.2 h) h1⟩
theorem put_walk (x v : Int) (a m : Nat) (h0 : 0 ≤ x) (h1 : x < 18446744073709551616) (hv0 : 0 ≤ v) (h : a + m ≤ 64) :
 bits .or .u64 (bits .andNot .u64 x (IntKind.u64.wrap (18446744073709551615 % 2 ^ m * 2 ^ a))) (IntKind.u64.wrap (v % 2 ^ m * 2 ^ a)) = ((putN x.toNat a m v.toNat : Nat) : Int) := by
 obtain ⟨X, rfl⟩ := Int.eq_ofNat_of_zero_le h0
 obtain ⟨V, rfl⟩ := Int.eq_ofNat_of_zero_le hv0
 have hle := pow_le64 (k := a + m) h
 have hm : 0 < 2 ^ m := Nat.pow_pos (n := m) (a := 2) (by omega)
 have ha : 0 < 2 ^ a := Nat.pow_pos (n := a) (a := 2) (by omega)
 have e1 : 18446744073709551615 % 2 ^ m = 2 ^ m - 1 := by
  have hd : 2 ^ m ∣ 18446744073709551616 := by
   have : (18446744073709551616 : Nat) = 2 ^ 64 := by decide
   rw [this]; exact Nat.pow_dvd_pow 2 (by omega)
  obtain ⟨q, hq⟩ := hd
  have hq0 : 0 < q := by
   rcases Nat.eq_zero_or_pos q with h | h
   ·subst h; omega
   ·exact h
  obtain ⟨r, rfl⟩ : ∃ r, q = r + 1 := ⟨q - 1, by omega⟩
  have : 18446744073709551615 = 2 ^ m - 1 + 2 ^ m * r := by rw [Nat.mul_add] at hq; omega
  rw [this, Nat.add_mul_mod_self_left]
  exact Nat.mod_eq_of_lt (by omega)
 have hb1 : (2 ^ m - 1) * 2 ^ a < 18446744073709551616 := by
  have : (2 ^ m - 1) * 2 ^ a < 2 ^ m * 2 ^ a := Nat.mul_lt_mul_of_pos_right (by omega) ha
  rw [← Nat.pow_add, Nat.add_comm] at this; omega
 have hb2 : V % 2 ^ m * 2 ^ a < 18446744073709551616 := by
  have : V % 2 ^ m * 2 ^ a < 2 ^ m * 2 ^ a := Nat.mul_lt_mul_of_pos_right (Nat.mod_lt _ hm) ha
  rw [← Nat.pow_add, Nat.add_comm] at this; omega
 have c1 : ((18446744073709551615 : Int) % 2 ^ m * 2 ^ a) = (((2 ^ m - 1) * 2 ^ a : Nat) : Int) := by
  rw [← e1, Int.natCast_mul, Int.natCast_emod, Int.natCast_pow, Int.natCast_pow]; rfl
 have c2 : ((V : Int) % 2 ^ m * 2 ^ a) = ((V % 2 ^ m * 2 ^ a : Nat) : Int) := by
  rw [Int.natCast_mul, Int.natCast_emod, Int.natCast_pow, Int.natCast_pow]; rfl
 rw [c1, c2, IntKind.wrap_u64, IntKind.wrap_u64, Int.emod_eq_of_lt (by omega) (by omega), Int.emod_eq_of_lt (by omega) (by omega)]
 have hX : X < 18446744073709551616 := by omega
 have hA : X &&& (18446744073709551615 - (2 ^ m - 1) * 2 ^ a) < 18446744073709551616 := Nat.lt_of_le_of_lt Nat.and_le_left hX
 rw [u64_andNot_nat X _ hX hb1, u64_or_nat _ _ hA hb2, put_bits X a m V hX h]
 simp
end Go.Proofs.YtdmmbnnejbmdpaaGreatDoor
end
section
namespace Go.Proofs.YtdmmbnnejbmdpaaGreatDoor
def kN (x : Nat) : Nat := x % 8
def cN (x : Nat) : Nat := x / 8 % 4
def lnN (x : Nat) : Nat := x / 32 % 64
def mN (x : Nat) : Nat := x / 2048 % 8192
def bN (x : Nat) : Nat := x / 16777216 % 256
def RightN (x : Nat) : Prop := x < 4294967296 ∧ (((kN x = 0 ∨ kN x = 3) ∧ cN x = 0 ∧ lnN x = 0 ∧ mN x = 0 ∧ bN x = 0) ∨
 (kN x = 1 ∧ lnN x = 0 ∧ mN x = 0 ∧ ((cN x = 0 ∧ bN x < 256) ∨ (cN x = 1 ∧ bN x < 16) ∨ (cN x = 2 ∧ bN x < 4))) ∨
 (kN x = 2 ∧ cN x = 0 ∧ lnN x = 0 ∧ bN x = 0 ∧ 1 ≤ mN x ∧ mN x ≤ 8191) ∨ (kN x = 4 ∧ cN x = 0 ∧ bN x = 0 ∧ lnN x < 64 ∧ mN x ≤ 7))
instance (x : Nat) : Decidable (RightN x) := by unfold RightN; infer_instance
def okN (x : Nat) : Bool := decide (RightN x)
theorem okN_t {x : Nat} (h : okN x = true) : RightN x := of_decide_eq_true h
theorem parts_bd (x : Nat) : kN x < 8 ∧ cN x < 4 ∧ lnN x < 64 ∧ mN x < 8192 ∧ bN x < 256 := by
 unfold kN cN lnN mN bN; omega
def stepT (x n : Nat) : Option Nat := if decide (kN x = 3) = decide (0 < n) then some (if kN x = 3 then n - 1 else if kN x = 2 then mN x - 1 else n) else none
def runT (t : List Nat) : Nat → Option Nat
 | 0 => some 0
 | k + 1 => (runT t k).bind (stepT (t.getD k 0))
def rightT (t : List Nat) : Bool := t.all okN && (runT t t.length == some 0)
theorem runT_none {t : List Nat} {k : Nat} (h : runT t k = none) : ∀ j, k ≤ j → runT t j = none := by
 intro j hj
 induction j with
 | zero => obtain rfl : k = 0 := by omega
           exact h
 | succ j ih =>
   by_cases e : k = j + 1
   ·subst e; exact h
   ·have := ih (by omega)
    simp only [runT, this, Option.bind_none]
theorem all_at {t : List Nat} (h : t.all okN = true) {k : Nat} (hk : k < t.length) : okN (t.getD k 0) = true := by
 rw [List.getD_eq_getElem?_getD, List.getElem?_eq_getElem hk]
 exact List.all_eq_true.1 h _ (List.getElem_mem hk)
theorem runT_app (t u : List Nat) : ∀ k, k ≤ t.length → runT (t ++ u) k = runT t k
 | 0, _ => rfl
 | k + 1, hk => by
   simp only [runT]
   rw [runT_app t u k (by omega)]
   congr 2
   simp only [List.getD_eq_getElem?_getD]
   rw [List.getElem?_append_left (by omega)]
theorem runT_app2 (t u : List Nat) (h : runT t t.length = some 0) : ∀ j, runT (t ++ u) (t.length + j) = runT u j
 | 0 => by rw [Nat.add_zero, runT_app t u _ (Nat.le_refl _), h]; rfl
 | j + 1 => by
   rw [← Nat.add_assoc]
   simp only [runT]
   rw [runT_app2 t u h j]
   congr 2
   simp only [List.getD_eq_getElem?_getD]
   rw [List.getElem?_append_right (by omega)]
   congr 2
   omega
theorem rightT_t {t : List Nat} (h : rightT t = true) : t.all okN = true ∧ runT t t.length = some 0 := by
 simp only [rightT, Bool.and_eq_true, beq_iff_eq] at h; exact h
theorem rightT_mk {t : List Nat} (h1 : t.all okN = true) (h2 : runT t t.length = some 0) : rightT t = true := by
 simp only [rightT, Bool.and_eq_true, beq_iff_eq]; exact ⟨h1, h2⟩
theorem rightT_app {t u : List Nat} (h1 : rightT t = true) (h2 : rightT u = true) : rightT (t ++ u) = true := by
 obtain ⟨a1, b1⟩ := rightT_t h1
 obtain ⟨a2, b2⟩ := rightT_t h2
 refine rightT_mk (by rw [List.all_append, a1, a2]; rfl) ?_
 rw [List.length_append, runT_app2 t u b1, b2]
theorem rightT_one {x : Nat} (h : okN x = true) (h2 : ¬ kN x = 2) (h3 : ¬ kN x = 3) : rightT [x] = true := by
 refine rightT_mk (by simp [h]) ?_
 simp [runT, stepT, h2, h3]
theorem runT_huge (x n : Nat) (hk : kN x = 2) (hm : mN x = n + 1) : ∀ j, j ≤ n → runT (x :: List.replicate n 3) (j + 1) = some (n - j)
 | 0, _ => by simp [runT, stepT, hk, hm]
 | j + 1, hj => by
   rw [runT, runT_huge x n hk hm j (by omega)]
   have e : (x :: List.replicate n 3).getD (j + 1) 0 = 3 := by
    simp only [List.getD_eq_getElem?_getD, List.getElem?_cons_succ]
    rw [List.getElem?_replicate, if_pos (by omega)]
    rfl
   rw [e]
   have : kN 3 = 3 := rfl
   simp only [Option.bind_some, stepT, this]
   have h0 : 0 < n - j := by omega
   simp [h0]
   omega
theorem rightT_huge {x n : Nat} (h : okN x = true) (hk : kN x = 2) (hm : mN x = n + 1) : rightT (x :: List.replicate n 3) = true := by
 refine rightT_mk ?_ ?_
 ·rw [List.all_eq_true]
  intro y hy
  rcases List.mem_cons.1 hy with rfl | hy
  ·exact h
  ·have := List.eq_of_mem_replicate hy
   subst this
   decide
 ·have := runT_huge x n hk hm n (Nat.le_refl _)
  rw [List.length_cons, List.length_replicate, this, Nat.sub_self]
def tailB (t : List Nat) (n i : Nat) : Bool := (List.range n).any fun k => decide (kN (t.getD k 0) = 2) && decide (i < k + mN (t.getD k 0))
theorem tailB_succ (t : List Nat) (n i : Nat) : tailB t (n + 1) i = (tailB t n i || (decide (kN (t.getD n 0) = 2) && decide (i < n + mN (t.getD n 0)))) := by
 simp [tailB, List.range_succ, List.any_append]
def refRightN (t : List Nat) (n : Nat) : Bool := (List.range n).all fun i => (tailB t i i == decide (kN (t.getD i 0) = 3)) && !(decide (kN (t.getD i 0) = 2) && decide (t.length < i + mN (t.getD i 0)))
def refRightB (t : List Nat) : Bool := t.all okN && refRightN t t.length
theorem refRightN_succ (t : List Nat) (n : Nat) : refRightN t (n + 1) = (refRightN t n && ((tailB t n n == decide (kN (t.getD n 0) = 3)) && !(decide (kN (t.getD n 0) = 2) && decide (t.length < n + mN (t.getD n 0))))) := by
 simp [refRightN, List.range_succ, List.all_append]
theorem run_tail {t : List Nat} (hok : t.all okN = true) : ∀ p, p ≤ t.length →
 (∀ n, runT t p = some n → (∀ i, p ≤ i → tailB t p i = decide (i < p + n)) ∧ (refRightN t p = decide (∀ k, k < p → kN (t.getD k 0) = 2 → k + mN (t.getD k 0) ≤ t.length))) ∧ (runT t p = none → refRightN t p = false)
 | 0, _ => ⟨fun n h => by
     simp only [runT, Option.some.injEq] at h
     subst h
     refine ⟨fun i _ => by simp [tailB], by simp [refRightN]⟩, fun h => by simp [runT] at h⟩
 | p + 1, hp => by
   obtain ⟨h1, h2⟩ := run_tail hok p (by omega)
   simp only [runT]
   cases hr : runT t p with
   | none =>
     refine ⟨fun n h => by simp at h, fun _ => ?_⟩
     rw [refRightN_succ, h2 hr, Bool.false_and]
   | some n =>
     obtain ⟨ha, hb⟩ := h1 n hr
     have hx := okN_t (all_at hok (show p < t.length by omega))
     rw [refRightN_succ, hb, ha p (Nat.le_refl _)]
     simp only [Option.bind_some]
     generalize hxx : t.getD p 0 = x at *
     have hpn : decide (p < p + n) = decide (0 < n) := by by_cases h : 0 < n <;> simp [h]
     rw [hpn]
     unfold stepT
     by_cases hs : decide (kN x = 3) = decide (0 < n)
     ·rw [if_pos hs]
      refine ⟨fun m hm => ?_, fun h => by simp at h⟩
      simp only [Option.some.injEq] at hm
      refine ⟨fun i hi => ?_, ?_⟩
      ·rw [tailB_succ, ha i (by omega), hxx]
       rw [decide_eq_decide] at hs
       have hX := hx
       unfold RightN at hX
       by_cases k3 : kN x = 3
       ·have k2 : ¬ kN x = 2 := by omega
        rw [if_pos k3] at hm
        have := hs.1 k3
        simp [k2]
        omega
       ·rw [if_neg k3] at hm
        have hn0 : n = 0 := by
         by_cases e : 0 < n
         ·exact absurd (hs.2 e) k3
         ·omega
        subst hn0
        by_cases k2 : kN x = 2
        ·rw [if_pos k2] at hm
         rw [Bool.eq_iff_iff]
         simp only [k2, Bool.or_eq_true, Bool.and_eq_true, decide_eq_true_eq, true_and]
         omega
        ·rw [if_neg k2] at hm
         simp [k2]
         omega
      ·rw [hs]
       simp only [beq_self_eq_true, Bool.true_and]
       rw [Bool.eq_iff_iff]
       simp only [Bool.and_eq_true, decide_eq_true_eq, Bool.not_eq_true', Bool.and_eq_false_iff, decide_eq_false_iff_not]
       constructor
       ·rintro ⟨q1, q2⟩ k hk hk2
        by_cases e : k = p
        ·subst e
         rw [hxx] at hk2 ⊢
         rcases q2 with q2 | q2
         ·exact absurd hk2 q2
         ·omega
        ·exact q1 k (by omega) hk2
       ·intro q
        refine ⟨fun k hk => q k (by omega), ?_⟩
        by_cases k2 : kN x = 2
        ·right
         have := q p (by omega) (by rw [hxx]; exact k2)
         rw [hxx] at this
         omega
        ·exact .inl k2
     ·rw [if_neg hs]
      refine ⟨fun n h => by simp at h, fun _ => ?_⟩
      have : (decide (0 < n) == decide (kN x = 3)) = false := by
       rw [beq_eq_false_iff_ne]
       exact fun h => hs h.symm
      rw [this]
      simp
theorem right_same (t : List Nat) : refRightB t = rightT t := by
 unfold refRightB rightT
 cases hok : t.all okN with
 | false => simp
 | true =>
   simp only [Bool.true_and]
   obtain ⟨h1, h2⟩ := run_tail hok t.length (Nat.le_refl _)
   cases hr : runT t t.length with
   | none => rw [h2 hr]; rfl
   | some n =>
     obtain ⟨ha, hb⟩ := h1 n hr
     rw [hb]
     have hq := ha t.length (Nat.le_refl _)
     rw [Bool.eq_iff_iff]
     simp only [decide_eq_true_eq, beq_iff_eq, Option.some.injEq]
     constructor
     ·intro q
      by_cases e : 0 < n
      ·rw [decide_eq_true (by omega)] at hq
       obtain ⟨k, hk, hk2⟩ := List.any_eq_true.1 hq
       simp only [Bool.and_eq_true, decide_eq_true_eq] at hk2
       have := q k (List.mem_range.1 hk) hk2.1
       omega
      ·omega
     ·rintro rfl k hk hk2
      rw [decide_eq_false (by omega)] at hq
      have := List.any_eq_false.1 hq k (List.mem_range.2 hk)
      simp only [Bool.and_eq_true, decide_eq_true_eq, not_and] at this
      have := this hk2
      omega
abbrev Bl := Nat × Nat × Nat
def mnN (c : Nat) : Nat := if c = 0 then 8 else if c = 1 then 4 else if c = 2 then 2 else 0
def blN (c : Nat) : Nat := if c = 0 then 4 else if c = 1 then 8 else if c = 2 then 16 else 0
def liveL (b m : Nat) : List Nat := (List.range m).filter b.testBit
def blksAt (i x : Nat) : List Bl := if kN x = 1 then (liveL (bN x) (mnN (cN x))).map (fun j => (i, j, blN (cN x))) else if kN x = 2 then [(i, 0, mN x * 32)] else []
def blksFrom : Nat → List Nat → List Bl
 | _, [] => []
 | o, x :: t => blksAt o x ++ blksFrom (o + 1) t
def blksT (t : List Nat) : List Bl := if t.all okN then blksFrom 0 t else []
theorem blksFrom_app : ∀ (o : Nat) (t u : List Nat), blksFrom o (t ++ u) = blksFrom o t ++ blksFrom (o + t.length) u
 | o, [], u => by simp [blksFrom]
 | o, x :: t, u => by
   simp only [List.cons_append, blksFrom, blksFrom_app (o + 1) t u, List.append_assoc, List.length_cons]
   rw [show o + 1 + t.length = o + (t.length + 1) by omega]
theorem blksFrom_take (t : List Nat) (k : Nat) (hk : k < t.length) : blksFrom 0 (t.take (k + 1)) = blksFrom 0 (t.take k) ++ blksAt k (t.getD k 0) := by
 rw [List.take_succ_eq_append_getElem hk, blksFrom_app]
 congr 1
 simp only [blksFrom, List.append_nil, Nat.zero_add, List.length_take]
 rw [Nat.min_eq_left (by omega), List.getD_eq_getElem?_getD, List.getElem?_eq_getElem hk]
 rfl
theorem liveL_len (b m : Nat) : (liveL b m).length ≤ m := by
 unfold liveL
 refine Nat.le_trans (List.length_filter_le _ _) ?_
 rw [List.length_range]; exact Nat.le_refl _
theorem mnN_le (c : Nat) : mnN c ≤ 8 := by unfold mnN; split <;> (try split) <;> (try split) <;> omega
theorem blksAt_len (i x : Nat) : (blksAt i x).length ≤ 8 := by
 unfold blksAt
 split
 ·rw [List.length_map]; exact Nat.le_trans (liveL_len _ _) (mnN_le _)
 ·split <;> simp
theorem blksFrom_len : ∀ (o : Nat) (t : List Nat), (blksFrom o t).length ≤ 8 * t.length
 | _, [] => by simp [blksFrom]
 | o, x :: t => by
   rw [blksFrom, List.length_append, List.length_cons]
   have := blksAt_len o x
   have := blksFrom_len (o + 1) t
   omega
end Go.Proofs.YtdmmbnnejbmdpaaGreatDoor
end
