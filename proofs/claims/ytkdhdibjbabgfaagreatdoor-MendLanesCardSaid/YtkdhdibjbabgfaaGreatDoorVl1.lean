/-
  Part of the proof of MendLanes.
-/
import Derived.Test.YtkdhdibjbabgfaaGreatDoorRows
import Derived.Handy
import Derived.Lib.Hide
import Derived.OpenShut
import Derived.ProofKit
import Derived.Laws.BitsAllLaws
import Derived.Laws.ShiftsVarLaws
import Derived.Test.YtkdhdibjbabgfaaGreatDoorVl0
set_option linter.unusedVariables false
set_option linter.unusedSimpArgs false
section
namespace Go.Proofs.YtkdhdibjbabgfaaGreatDoor
open Go.RowKit Go.ChangeShapes
theorem ret_b {a b : Bool} (h : a = b) : Ending.returned (.bool a) = .returned (.bool b) := by rw [h]
theorem ret_i {k : IntKind} {a b : Int} (h : a = b) : Ending.returned (.int k a) = .returned (.int k b) := by rw [h]
theorem bcell {W w1 : World} (hb : Below W.heap.size W w1) : (∀ b o, b < W.heap.size → w1.cell? ⟨b, o, none⟩ = W.cell? ⟨b, o, none⟩) ∧ (∀ b o, b < W.heap.size → w1.frozen? ⟨b, o, none⟩ = W.frozen? ⟨b, o, none⟩) :=
 ⟨fun b o h => hb.cell (p := ⟨b, o, none⟩) h, fun b o h => hb.frozen (p := ⟨b, o, none⟩) h⟩
theorem belowStep {B : Nat} {a b c : World} (h : Below B a b) (hB : B ≤ b.heap.size) (k : Below b.heap.size b c) : Below B a c ∧ B ≤ c.heap.size :=
 ⟨h.trans (k.mono hB), Nat.le_trans hB k.size⟩
end Go.Proofs.YtkdhdibjbabgfaaGreatDoor
end
section
namespace Go.Proofs.YtkdhdibjbabgfaaGreatDoor
def getN (w a m : Nat) : Nat := w / 2 ^ a % 2 ^ m
def putN (w a m v : Nat) : Nat := w % 2 ^ a + v % 2 ^ m * 2 ^ a + w / 2 ^ (a + m) * 2 ^ (a + m)
theorem pow_le64 {k : Nat} (h : k ≤ 64) : 2 ^ k ≤ 18446744073709551616 := by
 have := Nat.pow_le_pow_right (by omega : 2 > 0) (show k ≤ 64 by omega)
 simpa using this
theorem pow_lt64 {k : Nat} (h : k < 64) : 2 ^ k ≤ 9223372036854775808 := by
 have := Nat.pow_le_pow_right (by omega : 2 > 0) (show k ≤ 63 by omega)
 simpa using this
theorem putN_eq (w a m v : Nat) : putN w a m v = 2 ^ a * (2 ^ m * (w / 2 ^ (a + m)) + v % 2 ^ m) + w % 2 ^ a := by
 unfold putN
 rw [Nat.mul_add, ← Nat.mul_assoc, ← Nat.pow_add, Nat.mul_comm (v % 2 ^ m), Nat.mul_comm (w / 2 ^ (a + m))]
 omega
theorem putN_testBit (w a m v i : Nat) : (putN w a m v).testBit i = if a ≤ i ∧ i < a + m then v.testBit (i - a) else w.testBit i := by
 rw [putN_eq, Nat.testBit_two_pow_mul_add _ (Nat.mod_lt _ (Nat.pow_pos (by omega)))]
 by_cases h : i < a
 ·rw [if_pos h, if_neg (by omega), Nat.testBit_mod_two_pow]; simp [h]
 ·rw [if_neg h, Nat.testBit_two_pow_mul_add _ (Nat.mod_lt _ (Nat.pow_pos (by omega)))]
  by_cases h2 : i - a < m
  ·rw [if_pos h2, if_pos (by omega), Nat.testBit_mod_two_pow]; simp [h2]
  ·rw [if_neg h2, if_neg (by omega), Nat.testBit_div_two_pow]
   congr 1; omega
theorem getN_lt (w a m : Nat) : getN w a m < 2 ^ m := Nat.mod_lt _ (Nat.pow_pos (by omega))
theorem put_bits (w a m v : Nat) (hw : w < 18446744073709551616) (h : a + m ≤ 64) :
 (w &&& (18446744073709551615 - (2 ^ m - 1) * 2 ^ a)) ||| (v % 2 ^ m * 2 ^ a) = putN w a m v := by
 apply Nat.eq_of_testBit_eq
 intro i
 have hb : (2 ^ m - 1) * 2 ^ a < 2 ^ 64 := by
  have h1 : (2 ^ m - 1) * 2 ^ a < 2 ^ m * 2 ^ a := Nat.mul_lt_mul_of_pos_right (by have := Nat.pow_pos (n := m) (a := 2) (by omega); omega) (Nat.pow_pos (by omega))
  have h2 : 2 ^ m * 2 ^ a ≤ 2 ^ 64 := by rw [← Nat.pow_add]; exact Nat.pow_le_pow_right (by omega) (by omega)
  omega
 have e : 18446744073709551615 - (2 ^ m - 1) * 2 ^ a = 2 ^ 64 - ((2 ^ m - 1) * 2 ^ a + 1) := by omega
 rw [putN_testBit, Nat.testBit_or, Nat.testBit_and, e, Nat.testBit_two_pow_sub_succ hb, Nat.testBit_mul_two_pow, Nat.testBit_mul_two_pow, Nat.testBit_two_pow_sub_one, Nat.testBit_mod_two_pow]
 have hi64 : ¬ i < 64 → w.testBit i = false := fun hi => Nat.testBit_lt_two_pow (Nat.lt_of_lt_of_le hw (Nat.pow_le_pow_right (by omega : 2 > 0) (show 64 ≤ i by omega)))
 by_cases h1 : a ≤ i
 ·by_cases h2 : i - a < m
  ·rw [if_pos (by omega)]; simp [h1, h2]
  ·rw [if_neg (by omega)]
   by_cases h3 : i < 64
   ·simp [h1, h2, h3]
   ·simp [h1, h2, h3, hi64 h3]
 ·rw [if_neg (by omega)]
  by_cases h3 : i < 64
  ·simp [h1, h3]
  ·simp [h1, h3, hi64 h3]
theorem pow_cast (k : Nat) : ((2 : Int) ^ k) = ((2 ^ k : Nat) : Int) := by simp
theorem low_walk (x : Int) (k : Nat) (h0 : 0 ≤ x) (h1 : x < 18446744073709551616) (h : k < 64) :
 bits .and .u64 x (IntKind.u64.wrap (IntKind.u64.wrap (2 ^ k) - 1)) = x % 2 ^ k := by
 have hp := pow_lt64 h
 have hq : 0 < 2 ^ k := Nat.pow_pos (n := k) (a := 2) (by omega)
 obtain ⟨X, rfl⟩ := Int.eq_ofNat_of_zero_le h0
 rw [pow_cast, IntKind.wrap_u64, IntKind.wrap_u64, Int.emod_eq_of_lt (by omega) (by omega), Int.emod_eq_of_lt (by omega) (by omega)]
 have e : ((2 ^ k : Nat) : Int) - 1 = ((2 ^ k - 1 : Nat) : Int) := by omega
 rw [e, u64_and_nat X (2 ^ k - 1) (by omega) (by omega), Nat.and_two_pow_sub_one_eq_mod]
 exact Int.natCast_emod _ _
theorem shr_bd (x : Int) (k : Nat) (h0 : 0 ≤ x) (h1 : x < 18446744073709551616) : 0 ≤ x / 2 ^ k ∧ x / 2 ^ k < 18446744073709551616 := by
 obtain ⟨X, rfl⟩ := Int.eq_ofNat_of_zero_le h0
 have h : X / 2 ^ k ≤ X := Nat.div_le_self _ _
 rw [pow_cast, ← Int.natCast_ediv]
 exact ⟨Int.natCast_nonneg _, Int.lt_of_le_of_lt (Int.ofNat_le.2 h) h1⟩
theorem put_walk (x v : Int) (a m : Nat) (h0 : 0 ≤ x) (h1 : x < 18446744073709551616) (hv0 : 0 ≤ v) (h : a + m ≤ 64) :
 bits .or .u64 (bits .andNot .u64 x (IntKind.u64.wrap (18446744073709551615 % 2 ^ m * 2 ^ a))) (IntKind.u64.wrap (v % 2 ^ m * 2 ^ a)) = ((putN x.toNat a m v.toNat : Nat) : Int) := by
 obtain ⟨X, rfl⟩ := Int.eq_ofNat_of_zero_le h0
 obtain ⟨V, rfl⟩ := Int.eq_ofNat_of_zero_le hv0
 have hle := pow_le64 (k := a + m) h
 have hm : 0 < 2 ^ m := Nat.pow_pos (n := m) (a := 2) (by omega)
 have ha : 0 < 2 ^ a := Nat.pow_pos (n := a) (a := 2) (by omega)
 have e1 : 18446744073709551615 % 2 ^ m = 2 ^ m - 1 := by
  have hd : 2 ^ m ∣ 18446744073709551616 := by
   have : (18446744073709551616 : Nat) = 2 ^ 64 := by decide
   rw [this]; exact Nat.pow_dvd_pow 2 (by omega)
  obtain ⟨q, hq⟩ := hd
  have hq0 : 0 < q := by
   rcases Nat.eq_zero_or_pos q with h | h
   ·subst h; omega
   ·exact h
  obtain ⟨r, rfl⟩ : ∃ r, q = r + 1 := ⟨q - 1, by omega⟩
  have : 18446744073709551615 = 2 ^ m - 1 + 2 ^ m * r := by rw [Nat.mul_add] at hq; omega
  rw [this, Nat.add_mul_mod_self_left]
  exact Nat.mod_eq_of_lt (by omega)
 have hb1 : (2 ^ m - 1) * 2 ^ a < 18446744073709551616 := by
  have : (2 ^ m - 1) * 2 ^ a < 2 ^ m * 2 ^ a := Nat.mul_lt_mul_of_pos_right (by omega) ha
  rw [← Nat.pow_add, Nat.add_comm] at this; omega
 have hb2 : V % 2 ^ m * 2 ^ a < 18446744073709551616 := by
  have : V % 2 ^ m * 2 ^ a < 2 ^ m * 2 ^ a := Nat.mul_lt_mul_of_pos_right (Nat.mod_lt _ hm) ha
  rw [← Nat.pow_add, Nat.add_comm] at this; omega
 have c1 : ((18446744073709551615 : Int) % 2 ^ m * 2 ^ a) = (((2 ^ m - 1) * 2 ^ a : Nat) : Int) := by
  rw [← e1, Int.natCast_mul, Int.natCast_emod, Int.natCast_pow, Int.natCast_pow]; rfl
 have c2 : ((V : Int) % 2 ^ m * 2 ^ a) = ((V % 2 ^ m * 2 ^ a : Nat) : Int) := by
  rw [Int.natCast_mul, Int.natCast_emod, Int.natCast_pow, Int.natCast_pow]; rfl
 rw [c1, c2, IntKind.wrap_u64, IntKind.wrap_u64, Int.emod_eq_of_lt (by omega) (by omega), Int.emod_eq_of_lt (by omega) (by omega)]
 have hX : X < 18446744073709551616 := by omega
 have hA : X &&& (18446744073709551615 - (2 ^ m - 1) * 2 ^ a) < 18446744073709551616 := Nat.lt_of_le_of_lt Nat.and_le_left hX
 rw [u64_andNot_nat X _ hX hb1, u64_or_nat _ _ hA hb2, put_bits X a m V hX h]
 simp
end Go.Proofs.YtkdhdibjbabgfaaGreatDoor
end
section
namespace Go.Proofs.YtkdhdibjbabgfaaGreatDoor
def swL (d : List Nat) (i j : Nat) : List Nat := (d.set i (d.getD j 0)).set j (d.getD i 0)
theorem getD_set_ {d : List Nat} {i k x : Nat} (hi : i < d.length) : (d.set i x).getD k 0 = if k = i then x else d.getD k 0 := by
 rw [List.getD_eq_getElem?_getD, List.getD_eq_getElem?_getD, List.getElem?_set]
 by_cases h : i = k
 ·subst h; rw [if_pos rfl, if_pos rfl, if_pos hi]; rfl
 ·rw [if_neg h, if_neg (fun e => h e.symm)]
theorem swL_len (d : List Nat) (i j : Nat) : (swL d i j).length = d.length := by unfold swL; rw [List.length_set, List.length_set]
theorem swL_at {d : List Nat} {i j : Nat} (hi : i < d.length) (hj : j < d.length) (k : Nat) : (swL d i j).getD k 0 = if k = j then d.getD i 0 else if k = i then d.getD j 0 else d.getD k 0 := by
 unfold swL
 rw [getD_set_ (by rw [List.length_set]; exact hj), getD_set_ hi]
theorem count_set {d : List Nat} {i x : Nat} (hi : i < d.length) (z : Nat) : (d.set i x).count z + (if d.getD i 0 = z then 1 else 0) = d.count z + (if x = z then 1 else 0) := by
 induction d generalizing i with
 | nil => simp at hi
 | cons y d ih =>
   cases i with
   | zero =>
     rw [List.set_cons_zero, List.count_cons, List.count_cons, List.getD_cons_zero]
     simp only [beq_iff_eq]
     by_cases h1 : x = z <;> by_cases h2 : y = z <;> simp [h1, h2]
   | succ i =>
     rw [List.set_cons_succ, List.count_cons, List.count_cons, List.getD_cons_succ]
     have := ih (by simpa using hi)
     omega
theorem swL_perm {d : List Nat} {i j : Nat} (hi : i < d.length) (hj : j < d.length) : (swL d i j).Perm d := by
 rw [List.perm_iff_count]
 intro z
 unfold swL
 have h1 := count_set (d := d) (i := i) (x := d.getD j 0) hi z
 have h2 := count_set (d := d.set i (d.getD j 0)) (i := j) (x := d.getD i 0) (by rw [List.length_set]; exact hj) z
 rw [getD_set_ hi] at h2
 by_cases e : j = i
 ·subst e; rw [if_pos rfl] at h2; omega
 ·rw [if_neg e] at h2; omega
structure Mv (lo hi : Nat) (d e : List Nat) : Prop where
 len : e.length = d.length
 perm : e.Perm d
 out : ∀ i, ¬ (lo ≤ i ∧ i < hi) → e.getD i 0 = d.getD i 0
 inn : ∀ i, lo ≤ i → i < hi → ∃ j, lo ≤ j ∧ j < hi ∧ e.getD i 0 = d.getD j 0
theorem Mv.refl (lo hi : Nat) (d : List Nat) : Mv lo hi d d := ⟨rfl, List.Perm.refl _, fun _ _ => rfl, fun i h1 h2 => ⟨i, h1, h2, rfl⟩⟩
theorem Mv.trans {lo hi : Nat} {d e f : List Nat} (h : Mv lo hi d e) (g : Mv lo hi e f) : Mv lo hi d f :=
 ⟨g.len.trans h.len, g.perm.trans h.perm, fun i hi => (g.out i hi).trans (h.out i hi), fun i h1 h2 => by
   obtain ⟨j, j1, j2, e1⟩ := g.inn i h1 h2
   obtain ⟨k, k1, k2, e2⟩ := h.inn j j1 j2
   exact ⟨k, k1, k2, e1.trans e2⟩⟩
theorem Mv.wide {lo hi lo2 hi2 : Nat} {d e : List Nat} (h : Mv lo hi d e) (h1 : lo2 ≤ lo) (h2 : hi ≤ hi2) : Mv lo2 hi2 d e :=
 ⟨h.len, h.perm, fun i hi => h.out i (by omega), fun i j1 j2 => by
   by_cases q : lo ≤ i ∧ i < hi
   ·obtain ⟨j, a, b, c⟩ := h.inn i q.1 q.2
    exact ⟨j, by omega, by omega, c⟩
   ·exact ⟨i, j1, j2, h.out i q⟩⟩
theorem Mv.swap {lo hi i j : Nat} {d : List Nat} (h1 : lo ≤ i) (h2 : i < hi) (h3 : lo ≤ j) (h4 : j < hi) (hl : hi ≤ d.length) : Mv lo hi d (swL d i j) := by
 refine ⟨swL_len _ _ _, swL_perm (by omega) (by omega), fun k hk => ?_, fun k k1 k2 => ?_⟩
 ·rw [swL_at (by omega) (by omega), if_neg (by omega), if_neg (by omega)]
 ·rw [swL_at (by omega) (by omega)]
  by_cases e1 : k = j
  ·rw [if_pos e1]; exact ⟨i, h1, h2, rfl⟩
  ·rw [if_neg e1]
   by_cases e2 : k = i
   ·rw [if_pos e2]; exact ⟨j, h3, h4, rfl⟩
   ·rw [if_neg e2]; exact ⟨k, k1, k2, rfl⟩
def Srt (g : Nat → Int) (d : List Nat) (lo hi : Nat) : Prop := ∀ i j, lo ≤ i → i < j → j < hi → g (d.getD i 0) < g (d.getD j 0)
def Lss (g : Nat → Int) (d : List Nat) (lo hi lo2 hi2 : Nat) : Prop := ∀ i j, lo ≤ i → i < hi → lo2 ≤ j → j < hi2 → g (d.getD i 0) < g (d.getD j 0)
theorem Srt.join {g : Nat → Int} {d : List Nat} {lo mid hi : Nat} (h1 : Srt g d lo mid) (h2 : Srt g d mid hi) (h : Lss g d lo mid mid hi) : Srt g d lo hi := by
 intro i j a b c
 by_cases q : j < mid
 ·exact h1 i j a b q
 ·by_cases q2 : i < mid
  ·exact h i j a q2 (by omega) c
  ·exact h2 i j (by omega) b c
theorem Srt.mono {g : Nat → Int} {d : List Nat} {lo hi lo2 hi2 : Nat} (h : Srt g d lo hi) (h1 : lo ≤ lo2) (h2 : hi2 ≤ hi) : Srt g d lo2 hi2 := fun i j a b c => h i j (by omega) b (by omega)
theorem Srt.same {g : Nat → Int} {d e : List Nat} {lo hi : Nat} (h : Srt g d lo hi) (hs : ∀ i, lo ≤ i → i < hi → e.getD i 0 = d.getD i 0) : Srt g e lo hi := fun i j a b c => by
 rw [hs i a (by omega), hs j (by omega) c]; exact h i j a b c
theorem Srt.short {g : Nat → Int} {d : List Nat} {lo hi : Nat} (h : hi ≤ lo + 1) : Srt g d lo hi := fun i j a b c => by omega
theorem Lss.mv1 {g : Nat → Int} {d e : List Nat} {lo mid hi : Nat} (h : Lss g d lo mid mid hi) (m : Mv lo mid d e) : Lss g e lo mid mid hi := fun i j a b c k => by
 obtain ⟨i', q1, q2, e1⟩ := m.inn i a b
 rw [e1, m.out j (by omega)]
 exact h i' j q1 q2 c k
theorem Lss.mv2 {g : Nat → Int} {d e : List Nat} {lo mid hi : Nat} (h : Lss g d lo mid mid hi) (m : Mv mid hi d e) : Lss g e lo mid mid hi := fun i j a b c k => by
 obtain ⟨j', q1, q2, e1⟩ := m.inn j c k
 rw [e1, m.out i (by omega)]
 exact h i j' a b q1 q2
def swF (d : List Nat) (x y n : Nat) (k : Nat) : Nat := if x ≤ k ∧ k < x + n then d.getD (k - x + y) 0 else if y ≤ k ∧ k < y + n then d.getD (k - y + x) 0 else d.getD k 0
def SwR (d e : List Nat) (x y n : Nat) : Prop := e.length = d.length ∧ ∀ k, e.getD k 0 = swF d x y n k
theorem SwR.zero (d : List Nat) (x y : Nat) : SwR d d x y 0 := ⟨rfl, fun k => by unfold swF; rw [if_neg (by omega), if_neg (by omega)]⟩
theorem SwR.step {d e : List Nat} {x y n : Nat} (h : SwR d e x y n) (hx : x + n < y) (hy : y + n < d.length) : SwR d (swL e (x + n) (y + n)) x y (n + 1) := by
 obtain ⟨h1, h2⟩ := h
 refine ⟨by rw [swL_len, h1], fun k => ?_⟩
 rw [swL_at (by omega) (by omega), h2, h2, h2]
 unfold swF
 by_cases e1 : k = y + n
 ·subst e1
  rw [if_pos rfl, if_neg (by omega), if_neg (by omega), if_neg (by omega), if_pos (by omega)]
  congr 1; omega
 ·rw [if_neg e1]
  by_cases e2 : k = x + n
  ·subst e2
   rw [if_pos rfl, if_neg (by omega), if_neg (by omega), if_pos (by omega)]
   congr 1; omega
  ·rw [if_neg e2]
   by_cases q1 : x ≤ k ∧ k < x + n
   ·rw [if_pos q1, if_pos (by omega)]
   ·by_cases q2 : y ≤ k ∧ k < y + n
    ·rw [if_neg q1, if_pos q2, if_neg (by omega), if_pos (by omega)]
    ·rw [if_neg q1, if_neg q2, if_neg (by omega), if_neg (by omega)]
def rotF (d : List Nat) (lo m hi : Nat) (k : Nat) : Nat := if lo ≤ k ∧ k < hi then (if k < lo + (hi - m) then d.getD (k - lo + m) 0 else d.getD (k - (hi - m)) 0) else d.getD k 0
theorem rot_left {d e : List Nat} {lo m hi : Nat} (h : SwR d e lo m (hi - m)) (h1 : hi - m < m - lo) (h2 : m ≤ hi) (k : Nat) : rotF e (lo + (hi - m)) m hi k = rotF d lo m hi k := by
 have q := h.2
 unfold rotF
 by_cases k1 : lo ≤ k ∧ k < hi
 ·by_cases k2 : k < lo + (hi - m)
  ·rw [if_neg (by omega), if_pos k1, if_pos k2, q]
   unfold swF
   rw [if_pos (by omega)]
  ·rw [if_pos (by omega), if_pos k1, if_neg k2]
   by_cases k3 : k < lo + (hi - m) + (hi - m)
   ·rw [if_pos k3, q]
    unfold swF
    rw [if_neg (by omega), if_pos (by omega)]
    congr 1; omega
   ·rw [if_neg k3, q]
    unfold swF
    rw [if_neg (by omega), if_neg (by omega)]
 ·rw [if_neg (by omega), if_neg k1, q]
  unfold swF
  rw [if_neg (by omega), if_neg (by omega)]
theorem rot_right {d e : List Nat} {lo m hi : Nat} (h : SwR d e lo (hi - (m - lo)) (m - lo)) (h1 : m - lo < hi - m) (h2 : lo ≤ m) (k : Nat) : rotF e lo m (hi - (m - lo)) k = rotF d lo m hi k := by
 have q := h.2
 unfold rotF
 by_cases k1 : lo ≤ k ∧ k < hi
 ·by_cases k2 : k < hi - (m - lo)
  ·rw [if_pos (by omega), if_pos k1]
   by_cases k3 : k < lo + (hi - (m - lo) - m)
   ·rw [if_pos k3, if_pos (by omega), q]
    unfold swF
    rw [if_neg (by omega), if_neg (by omega)]
   ·rw [if_neg k3, if_pos (by omega), q]
    unfold swF
    rw [if_pos (by omega)]
    congr 1; omega
  ·rw [if_neg (by omega), if_pos k1, q, if_neg (by omega)]
   unfold swF
   rw [if_neg (by omega), if_pos (by omega)]
   congr 1; omega
 ·rw [if_neg (by omega), if_neg k1, q]
  unfold swF
  rw [if_neg (by omega), if_neg (by omega)]
theorem rot_even {d e : List Nat} {lo m hi : Nat} (h : SwR d e lo m (m - lo)) (h1 : m - lo = hi - m) (h2 : lo ≤ m) (h3 : m ≤ hi) (k : Nat) : e.getD k 0 = rotF d lo m hi k := by
 rw [h.2]
 unfold swF rotF
 by_cases k1 : lo ≤ k ∧ k < hi
 ·rw [if_pos k1]
  by_cases k2 : k < lo + (hi - m)
  ·rw [if_pos (by omega), if_pos k2]
  ·rw [if_neg (by omega), if_pos (by omega), if_neg k2]
   congr 1; omega
 ·rw [if_neg (by omega), if_neg (by omega), if_neg k1]
def nI (x : Nat) : Int := x
structure Key (N : Nat) (f g : Nat → Int) : Prop where
 lt : ∀ x y, y < x → x < N → f x < f y → g x < g y
 ge : ∀ x y, y < x → x < N → ¬ f x < f y → g y < g x
theorem key_mk (N : Nat) (f : Nat → Int) : Key N f (fun x => f x * N + x) := by
 refine ⟨fun x y h hx hf => ?_, fun x y h hx hf => ?_⟩
 ·have h1 : f x + 1 ≤ f y := by omega
  have h2 : (f x + 1) * (N : Int) ≤ f y * N := Int.mul_le_mul_of_nonneg_right h1 (by omega)
  rw [Int.add_mul] at h2
  show f x * N + x < f y * N + y
  omega
 ·have h1 : f y ≤ f x := by omega
  have h2 : f y * (N : Int) ≤ f x * N := Int.mul_le_mul_of_nonneg_right h1 (by omega)
  show f y * N + y < f x * N + x
  omega
structure Cut (g : Nat → Int) (d : List Nat) (a m b s0 r0 start e : Nat) : Prop where
 am : a < m
 mb : m < b
 bd : a ≤ s0 ∧ s0 ≤ start ∧ start ≤ r0 ∧ r0 ≤ m ∧ r0 ≤ (a + b) / 2 ∧ (a + b) / 2 + m ≤ s0 + b
 rr : r0 = m ∨ r0 = (a + b) / 2
 ss : s0 = a ∨ s0 + b = (a + b) / 2 + m
 ee : e + start = (a + b) / 2 + m
 lo : ∀ c, s0 ≤ c → c < start → g (d.getD c 0) < g (d.getD ((a + b) / 2 + m - 1 - c) 0)
 hi : ∀ c, start ≤ c → c < r0 → g (d.getD ((a + b) / 2 + m - 1 - c) 0) < g (d.getD c 0)
theorem rotF_a {d : List Nat} {lo m hi k : Nat} (h : ¬ (lo ≤ k ∧ k < hi)) : rotF d lo m hi k = d.getD k 0 := by unfold rotF; rw [if_neg h]
theorem rotF_b {d : List Nat} {lo m hi k : Nat} (h : lo ≤ k) (h2 : k < lo + (hi - m)) (h3 : lo ≤ m) (h4 : m ≤ hi) : rotF d lo m hi k = d.getD (k - lo + m) 0 := by unfold rotF; rw [if_pos (by omega), if_pos h2]
theorem rotF_c {d : List Nat} {lo m hi k : Nat} (h : lo + (hi - m) ≤ k) (h2 : k < hi) (h3 : lo ≤ m) (h4 : m ≤ hi) : rotF d lo m hi k = d.getD (k - (hi - m)) 0 := by unfold rotF; rw [if_pos (by omega), if_neg (by omega)]
theorem Cut.left {g k : Nat → Int} {d e : List Nat} {a m b s0 r0 start en : Nat} (c : Cut g d a m b s0 r0 start en) (h2 : Lss k d a m m b) (hr : ∀ i, e.getD i 0 = rotF d start m en i) : Lss k e a start start ((a + b) / 2) := by
 have hs0 := c.bd; have he := c.ee; have h3 := c.am; have h4 := c.mb
 intro i j i1 i2 j1 j2
 rw [hr, hr, rotF_a (by omega), rotF_b (by omega) (by omega) (by omega) (by omega)]
 exact h2 _ _ (by omega) (by omega) (by omega) (by omega)
theorem Cut.right {g k : Nat → Int} {d e : List Nat} {a m b s0 r0 start en : Nat} (c : Cut g d a m b s0 r0 start en) (h2 : Lss k d a m m b) (hr : ∀ i, e.getD i 0 = rotF d start m en i) : Lss k e ((a + b) / 2) en en b := by
 have hs0 := c.bd; have he := c.ee; have h3 := c.am; have h4 := c.mb
 intro i j i1 i2 j1 j2
 rw [hr, hr, rotF_c (by omega) (by omega) (by omega) (by omega), rotF_a (by omega)]
 exact h2 _ _ (by omega) (by omega) (by omega) (by omega)
theorem Cut.srt {g : Nat → Int} {d e : List Nat} {a m b s0 r0 start en : Nat} (c : Cut g d a m b s0 r0 start en) (l : Srt g d a m) (r : Srt g d m b) (hr : ∀ i, e.getD i 0 = rotF d start m en i) :
 Srt g e a start ∧ Srt g e start ((a + b) / 2) ∧ Srt g e ((a + b) / 2) en ∧ Srt g e en b := by
 have hs0 := c.bd; have he := c.ee; have h3 := c.am; have h4 := c.mb
 refine ⟨fun i j i1 i2 i3 => ?_, fun i j i1 i2 i3 => ?_, fun i j i1 i2 i3 => ?_, fun i j i1 i2 i3 => ?_⟩
 ·rw [hr, hr, rotF_a (by omega), rotF_a (by omega)]; exact l _ _ (by omega) (by omega) (by omega)
 ·rw [hr, hr, rotF_b (by omega) (by omega) (by omega) (by omega), rotF_b (by omega) (by omega) (by omega) (by omega)]; exact r _ _ (by omega) (by omega) (by omega)
 ·rw [hr, hr, rotF_c (by omega) (by omega) (by omega) (by omega), rotF_c (by omega) (by omega) (by omega) (by omega)]; exact l _ _ (by omega) (by omega) (by omega)
 ·rw [hr, hr, rotF_a (by omega), rotF_a (by omega)]; exact r _ _ (by omega) (by omega) (by omega)
theorem le_of_srt {g : Nat → Int} {d : List Nat} {lo hi i j : Nat} (h : Srt g d lo hi) (h1 : lo ≤ i) (h2 : i ≤ j) (h3 : j < hi) : g (d.getD i 0) ≤ g (d.getD j 0) := by
 by_cases e : i = j
 ·subst e; exact Int.le_refl _
 ·exact Int.le_of_lt (h i j h1 (by omega) h3)
theorem Cut.mid {g : Nat → Int} {d e : List Nat} {a m b s0 r0 start en : Nat} (c : Cut g d a m b s0 r0 start en) (l : Srt g d a m) (r : Srt g d m b) (hr : ∀ i, e.getD i 0 = rotF d start m en i) :
 Lss g e a ((a + b) / 2) ((a + b) / 2) b := by
 have hs0 := c.bd; have he := c.ee; have h3 := c.am; have h4 := c.mb; have hr0 := c.rr; have hs1 := c.ss
 intro i j i1 i2 j1 j2
 rw [hr, hr]
 by_cases q1 : i < start
 ·rw [rotF_a (by omega)]
  by_cases q2 : j < en
  ·rw [rotF_c (by omega) (by omega) (by omega) (by omega)]
   exact l _ _ (by omega) (by omega) (by omega)
  ·rw [rotF_a (by omega)]
   -- a beginning of the left one against an end of the right one
   have hgt : s0 < start ∨ s0 = start := by omega
   rcases hgt with hgt | hgt
   ·have k1 := c.lo (start - 1) (by omega) (by omega)
    have e1 : (a + b) / 2 + m - 1 - (start - 1) = en := by omega
    rw [e1] at k1
    have k2 := le_of_srt l (i := i) (j := start - 1) (by omega) (by omega) (by omega)
    have k3 := le_of_srt r (i := en) (j := j) (by omega) (by omega) (by omega)
    omega
   ·rcases hs1 with hs1 | hs1
    ·omega
    ·omega
 ·rw [rotF_b (by omega) (by omega) (by omega) (by omega)]
  by_cases q2 : j < en
  ·rw [rotF_c (by omega) (by omega) (by omega) (by omega)]
   have hgt : start < r0 ∨ start = r0 := by omega
   rcases hgt with hgt | hgt
   ·have k1 := c.hi start (by omega) hgt
    have k2 := le_of_srt l (i := start) (j := j - (en - m)) (by omega) (by omega) (by omega)
    have k3 := le_of_srt r (i := i - start + m) (j := (a + b) / 2 + m - 1 - start) (by omega) (by omega) (by omega)
    omega
   ·omega
  ·rw [rotF_a (by omega)]
   exact r _ _ (by omega) (by omega) (by omega)
theorem find_lo {g : Nat → Int} {d : List Nat} {a m b s0 c p : Nat} (l : Srt g d a m) (r : Srt g d m b) (h : g (d.getD c 0) < g (d.getD (p - c) 0)) (h1 : a ≤ s0) (h2 : c < m) (h3 : p < s0 + b) (h4 : m + c ≤ p) :
 ∀ k, s0 ≤ k → k < c + 1 → g (d.getD k 0) < g (d.getD (p - k) 0) := fun k k1 k2 => by
 have q1 := le_of_srt l (i := k) (j := c) (by omega) (by omega) (by omega)
 have q2 := le_of_srt r (i := p - c) (j := p - k) (by omega) (by omega) (by omega)
 omega
theorem find_hi {g : Nat → Int} {d : List Nat} {a m b s0 c p r0 : Nat} (l : Srt g d a m) (r : Srt g d m b) (h : g (d.getD (p - c) 0) < g (d.getD c 0)) (h1 : a ≤ s0) (h2 : s0 ≤ c) (h3 : p < s0 + b) (h4 : r0 ≤ m) (h5 : m + r0 ≤ p + 1) :
 ∀ k, c ≤ k → k < r0 → g (d.getD (p - k) 0) < g (d.getD k 0) := fun k k1 k2 => by
 have q1 := le_of_srt l (i := c) (j := k) (by omega) (by omega) (by omega)
 have q2 := le_of_srt r (i := p - k) (j := p - c) (by omega) (by omega) (by omega)
 omega
theorem Srt.mv {g : Nat → Int} {d e : List Nat} {lo hi lo2 hi2 : Nat} (h : Srt g d lo2 hi2) (m : Mv lo hi d e) (ho : hi ≤ lo2 ∨ hi2 ≤ lo) : Srt g e lo2 hi2 := h.same fun i i1 i2 => m.out i (by omega)
theorem Lss.mvA {g : Nat → Int} {d e : List Nat} {lo hi lo1 hi1 lo2 hi2 : Nat} (h : Lss g d lo1 hi1 lo2 hi2) (m : Mv lo hi d e) (h1 : (hi ≤ lo1 ∨ hi1 ≤ lo) ∨ (lo1 ≤ lo ∧ hi ≤ hi1)) (h2 : (hi ≤ lo2 ∨ hi2 ≤ lo) ∨ (lo2 ≤ lo ∧ hi ≤ hi2)) : Lss g e lo1 hi1 lo2 hi2 := fun i j i1 i2 j1 j2 => by
 have q1 : ∃ i', lo1 ≤ i' ∧ i' < hi1 ∧ e.getD i 0 = d.getD i' 0 := by
  by_cases q : lo ≤ i ∧ i < hi
  ·obtain ⟨i', a, b, c⟩ := m.inn i q.1 q.2
   exact ⟨i', by omega, by omega, c⟩
  ·exact ⟨i, i1, i2, m.out i q⟩
 have q2 : ∃ j', lo2 ≤ j' ∧ j' < hi2 ∧ e.getD j 0 = d.getD j' 0 := by
  by_cases q : lo ≤ j ∧ j < hi
  ·obtain ⟨j', a, b, c⟩ := m.inn j q.1 q.2
   exact ⟨j', by omega, by omega, c⟩
  ·exact ⟨j, j1, j2, m.out j q⟩
 obtain ⟨i', a1, a2, a3⟩ := q1
 obtain ⟨j', b1, b2, b3⟩ := q2
 rw [a3, b3]
 exact h i' j' a1 a2 b1 b2
def insF (d : List Nat) (i j k : Nat) : Nat := if k = j then d.getD i 0 else if j < k ∧ k ≤ i then d.getD (k - 1) 0 else d.getD k 0
structure Ins (d e : List Nat) (a i j : Nat) : Prop where
 at_ : ∀ k, e.getD k 0 = insF d i j k
 mv : Mv a (i + 1) d e
theorem Ins.start (d : List Nat) (a i : Nat) : Ins d d a i i := ⟨fun k => by
 unfold insF
 by_cases h : k = i
 ·rw [if_pos h, h]
 ·rw [if_neg h, if_neg (by omega)], Mv.refl _ _ _⟩
theorem Ins.step {d e : List Nat} {a i j : Nat} (h : Ins d e a i (j + 1)) (ha : a ≤ j) (hj : j + 1 ≤ i) (hi : i < d.length) : Ins d (swL e (j + 1) j) a i j := by
 have hl := h.mv.len
 refine ⟨fun k => ?_, h.mv.trans (Mv.swap (by omega) (by omega) (by omega) (by omega) (by omega))⟩
 rw [swL_at (by omega) (by omega), h.at_, h.at_, h.at_]
 unfold insF
 by_cases e1 : k = j
 ·subst e1
  rw [if_pos rfl, if_pos rfl, if_pos rfl]
 ·rw [if_neg e1, if_neg e1]
  by_cases e2 : k = j + 1
  ·subst e2
   rw [if_pos rfl, if_neg (by omega), if_neg (by omega), if_pos (by omega)]
   congr 1
  ·rw [if_neg e2, if_neg e2]
   by_cases q : j + 1 < k ∧ k ≤ i
   ·rw [if_pos q, if_pos (by omega)]
   ·rw [if_neg q, if_neg (by omega)]
theorem Ins.done {g : Nat → Int} {d e : List Nat} {a i j : Nat} (h : Ins d e a i j) (hs : Srt g d a i) (hj : a ≤ j) (hji : j ≤ i) (h1 : j = a ∨ g (d.getD (j - 1) 0) < g (d.getD i 0)) (h2 : ∀ q, j ≤ q → q < i → g (d.getD i 0) < g (d.getD q 0)) : Srt g e a (i + 1) := by
 intro p q p1 p2 p3
 rw [h.at_, h.at_]
 unfold insF
 by_cases e1 : p = j
 ·subst e1
  rw [if_pos rfl, if_neg (by omega), if_pos (by omega)]
  exact h2 _ (by omega) (by omega)
 ·rw [if_neg e1]
  by_cases e2 : q = j
  ·subst e2
   rw [if_pos rfl, if_neg (by omega)]
   rcases h1 with h1 | h1
   ·omega
   ·have := le_of_srt hs (i := p) (j := q - 1) p1 (by omega) (by omega)
    omega
  ·rw [if_neg e2]
   by_cases k1 : j < p ∧ p ≤ i
   ·rw [if_pos k1, if_pos (by omega)]
    exact hs _ _ (by omega) (by omega) (by omega)
   ·rw [if_neg k1]
    by_cases k2 : j < q ∧ q ≤ i
    ·rw [if_pos k2]
     by_cases k3 : p = q - 1
     ·omega
     ·exact hs _ _ (by omega) (by omega) (by omega)
    ·rw [if_neg k2]
     exact hs _ _ (by omega) (by omega) (by omega)
theorem Ins.below {g : Nat → Int} {d : List Nat} {i j : Nat} (h : g (d.getD i 0) < g (d.getD j 0)) (h2 : ∀ q, j + 1 ≤ q → q < i → g (d.getD i 0) < g (d.getD q 0)) : ∀ q, j ≤ q → q < i → g (d.getD i 0) < g (d.getD q 0) := fun q q1 q2 => by
 by_cases e : q = j
 ·subst e; exact h
 ·exact h2 q (by omega) q2
theorem srt_pair {g : Nat → Int} {d : List Nat} (h : Srt g d 0 d.length) : d.Pairwise (fun x y => g x < g y) := by
 rw [List.pairwise_iff_getElem]
 intro i j hi hj hij
 have := h i j (by omega) hij hj
 rwa [List.getD_eq_getElem?_getD, List.getD_eq_getElem?_getD, List.getElem?_eq_getElem hi, List.getElem?_eq_getElem hj] at this
theorem asc_lss {d : List Nat} {lo mid hi : Nat} (h : Srt nI d lo hi) : Lss nI d lo mid mid hi := fun i j a b c k => h i j a (by omega) k
theorem nI_lt {d : List Nat} {i j : Nat} (h : nI (d.getD i 0) < nI (d.getD j 0)) : d.getD i 0 < d.getD j 0 := by unfold nI at h; omega
end Go.Proofs.YtkdhdibjbabgfaaGreatDoor
end
