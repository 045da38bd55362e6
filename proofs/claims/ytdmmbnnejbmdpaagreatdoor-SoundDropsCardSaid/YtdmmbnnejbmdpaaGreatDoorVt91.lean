/-
  Part of the proof of SoundApart,SoundTwins,SoundWords.
-/
import Derived.Test.YtdmmbnnejbmdpaaGreatDoorRows
import Derived.Handy
import Derived.Lib.Hide
import Derived.OpenShut
import Derived.ProofKit
import Derived.Laws.BitsAllLaws
import Derived.Laws.ShiftsVarLaws
import Derived.Deep.RegionHeld3
import Derived.WalkLawsBesides
import Derived.WalkSpells
import Derived.OwnWalkIn
import Derived.StillTail
import Derived.Test.YtdmmbnnejbmdpaaGreatDoorVt90
set_option maxRecDepth 10000
set_option maxHeartbeats 400000
set_option linter.unusedVariables false
set_option linter.unusedSimpArgs false
section
namespace Go.Proofs.YtdmmbnnejbmdpaaGreatDoor
open Go.RowKit Go.ChangeShapes
theorem ret_b {a b : Bool} (h : a = b) : Ending.returned (.bool a) = .returned (.bool b) := by rw [h]
theorem ret_i {k : IntKind} {a b : Int} (h : a = b) : Ending.returned (.int k a) = .returned (.int k b) := by rw [h]
theorem bcell {W w1 : World} (hb : Below W.heap.size W w1) : (∀ b o, b < W.heap.size → w1.cell? ⟨b, o, none⟩ = W.cell? ⟨b, o, none⟩) ∧ (∀ b o, b < W.heap.size → w1.frozen? ⟨b, o, none⟩ = W.frozen? ⟨b, o, none⟩) :=
 ⟨fun b o h => hb.cell (p := ⟨b, o, none⟩) h, fun b o h => hb.frozen (p := ⟨b, o, none⟩) h⟩
theorem post_of_below {H : Type} {enc : TypeId × Value → H} {P : Program} {f : Func} {s : ChangeSpec} {apart fresh handsOn again : Bool} {W W' : World} {args : Array Value} {v : Value} {ds gs : List (DataW H)} {before pa pv : List MemPlace}
 (hW : DataW.Whole enc P f.params.toList s.vars apart W args.toList ds gs before)
 (hres : ∀ (b : Nat) (sp : Nat → Bool) (hd : Bool), DataW.TrodAll enc P W' b sp hd f.resultTypes.toList (v.resultList f.resultTypes.size) (s.fn H (ds ++ gs)).results [])
 (hargs : ∀ sp : Nat → Bool, (∀ p ∈ before, sp p.block = true) → DataW.TrodAll enc P W' 0 sp true f.params.toList args.toList (s.fn H (ds ++ gs)).args pa)
 (hvars : ∀ sp : Nat → Bool, (∀ p ∈ before, sp p.block = true) → DataW.TrodVars enc P W' sp s.vars (s.fn H (ds ++ gs)).vars pv)
 (hps : before = pa ++ pv) (hb : Below W.heap.size W W')
 (hok : ∀ (j : Nat) (t : TypeId) (r : Value), f.resultTypes[j]? = some t → (v.resultList f.resultTypes.size)[j]? = some r → Value.okWide P W' .any 0 t r) :
 s.post enc P f apart fresh handsOn again W args v W' := by
 have hold : ∀ p ∈ before, (fun b => decide (b < W.heap.size)) p.block = true := fun p hp => by simpa using hW.lt p hp
 refine ⟨ds, gs, before, [], pa, pv, hW, hres _ _ _, hargs _ hold, hvars _ hold, World.keptBut_mono (fun p hp => ⟨hp, ?_⟩) (hb.frame _), fun _ => ?_⟩
 ·rw [hps, List.mem_append] at hp
  exact Or.inr hp
 ·have hlt := hW.lt
  obtain ⟨_, _, _, _, _, hz, hn⟩ := hW
  refine ⟨hok, _, _, ([] ++ pa) ++ pv, ⟨[] ++ pa, pv, trodAll_append (hargs _ (fun _ _ => rfl)) (hres _ _ _), hvars _ (fun _ _ => rfl), rfl, ?_, ?_⟩, ?_⟩
  ·intro b off hp
   have hp' : MemPlace.cell b off ∈ before := by rw [hps]; simpa using hp
   rw [hb.frozen (p := ⟨b, off, none⟩) (hlt _ hp')]
   exact hz b off hp'
  ·intro ha
   have := hn ha
   rw [hps] at this
   simpa using this
  ·intro p hp _
   rw [hps]
   simpa using hp
end Go.Proofs.YtdmmbnnejbmdpaaGreatDoor
end
section
namespace Go.Proofs.YtdmmbnnejbmdpaaGreatDoor
def getN (w a m : Nat) : Nat := w / 2 ^ a % 2 ^ m
def putN (w a m v : Nat) : Nat := w % 2 ^ a + v % 2 ^ m * 2 ^ a + w / 2 ^ (a + m) * 2 ^ (a + m)
theorem pow_le64 {k : Nat} (h : k ≤ 64) : 2 ^ k ≤ 18446744073709551616 := by
 have := Nat.pow_le_pow_right (by omega : 2 > 0) (show k ≤ 64 by omega)
 simpa using this
theorem pow_lt64 {k : Nat} (h : k < 64) : 2 ^ k ≤ 9223372036854775808 := by
 have := Nat.pow_le_pow_right (by omega : 2 > 0) (show k ≤ 63 by omega)
 simpa using this
theorem putN_eq (w a m v : Nat) : putN w a m v = 2 ^ a * (2 ^ m * (w / 2 ^ (a + m)) + v % 2 ^ m) + w % 2 ^ a := by
 unfold putN
 rw [Nat.mul_add, ← Nat.mul_assoc, ← Nat.pow_add, Nat.mul_comm (v % 2 ^ m), Nat.mul_comm (w / 2 ^ (a + m))]
 omega
theorem putN_testBit (w a m v i : Nat) : (putN w a m v).testBit i = if a ≤ i ∧ i < a + m then v.testBit (i - a) else w.testBit i := by
 rw [putN_eq, Nat.testBit_two_pow_mul_add _ (Nat.mod_lt _ (Nat.pow_pos (by omega)))]
 by_cases h : i < a
 ·rw [if_pos h, if_neg (by omega), Nat.testBit_mod_two_pow]; simp [h]
 ·rw [if_neg h, Nat.testBit_two_pow_mul_add _ (Nat.mod_lt _ (Nat.pow_pos (by omega)))]
  by_cases h2 : i - a < m
  ·rw [if_pos h2, if_pos (by omega), Nat.testBit_mod_two_pow]; simp [h2]
  ·rw [if_neg h2, if_neg (by omega), Nat.testBit_div_two_pow]
   congr 1; omega
theorem getN_lt (w a m : Nat) : getN w a m < 2 ^ m := Nat.mod_lt _ (Nat.pow_pos (by omega))
theorem put_bits (w a m v : Nat) (hw : w < 18446744073709551616) (h : a + m ≤ 64) :
 (w &&& (18446744073709551615 - (2 ^ m - 1) * 2 ^ a)) ||| (v % 2 ^ m * 2 ^ a) = putN w a m v := by
 apply Nat.eq_of_testBit_eq
 intro i
 have hb : (2 ^ m - 1) * 2 ^ a < 2 ^ 64 := by
  have h1 : (2 ^ m - 1) * 2 ^ a < 2 ^ m * 2 ^ a := Nat.mul_lt_mul_of_pos_right (by have := Nat.pow_pos (n := m) (a := 2) (by omega); omega) (Nat.pow_pos (by omega))
  have h2 : 2 ^ m * 2 ^ a ≤ 2 ^ 64 := by rw [← Nat.pow_add]; exact Nat.pow_le_pow_right (by omega) (by omega)
  omega
 have e : 18446744073709551615 - (2 ^ m - 1) * 2 ^ a = 2 ^ 64 - ((2 ^ m - 1) * 2 ^ a + 1) := by omega
 rw [putN_testBit, Nat.testBit_or, Nat.testBit_and, e, Nat.testBit_two_pow_sub_succ hb, Nat.testBit_mul_two_pow, Nat.testBit_mul_two_pow, Nat.testBit_two_pow_sub_one, Nat.testBit_mod_two_pow]
 have hi64 : ¬ i < 64 → w.testBit i = false := fun hi => Nat.testBit_lt_two_pow (Nat.lt_of_lt_of_le hw (Nat.pow_le_pow_right (by omega : 2 > 0) (show 64 ≤ i by omega)))
 by_cases h1 : a ≤ i
 ·by_cases h2 : i - a < m
  ·rw [if_pos (by omega)]; simp [h1, h2]
  ·rw [if_neg (by omega)]
   by_cases h3 : i < 64
   ·simp [h1, h2, h3]
   ·simp [h1, h2, h3, hi64 h3]
 ·rw [if_neg (by omega)]
  by_cases h3 : i < 64
  ·simp [h1, h3]
  ·simp [h1, h3, hi64 h3]
theorem pow_cast (k : Nat) : ((2 : Int) ^ k) = ((2 ^ k : Nat) : Int) := by simp
theorem low_walk (x : Int) (k : Nat) (h0 : 0 ≤ x) (h1 : x < 18446744073709551616) (h : k < 64) :
 bits .and .u64 x (IntKind.u64.wrap (IntKind.u64.wrap (2 ^ k) - 1)) = x % 2 ^ k := by
 have hp := pow_lt64 h
 have hq : 0 < 2 ^ k := Nat.pow_pos (n := k) (a := 2) (by omega)
 obtain ⟨X, rfl⟩ := Int.eq_ofNat_of_zero_le h0
 rw [pow_cast, IntKind.wrap_u64, IntKind.wrap_u64, Int.emod_eq_of_lt (by omega) (by omega), Int.emod_eq_of_lt (by omega) (by omega)]
 have e : ((2 ^ k : Nat) : Int) - 1 = ((2 ^ k - 1 : Nat) : Int) := by omega
 rw [e, u64_and_nat X (2 ^ k - 1) (by omega) (by omega), Nat.and_two_pow_sub_one_eq_mod]
 exact Int.natCast_emod _ _
theorem shr_bd (x : Int) (k : Nat) (h0 : 0 ≤ x) (h1 : x < 18446744073709551616) : 0 ≤ x / 2 ^ k ∧ x / 2 ^ k < 18446744073709551616 := by
 obtain ⟨X, rfl⟩ := Int.eq_ofNat_of_zero_le h0
 have h : X / 2 ^ k ≤ X := Nat.div_le_self _ _
 rw [pow_cast, ← Int.natCast_ediv]
 exact ⟨Int.natCast_nonneg _, Int.lt_of_le_of_lt (Int.ofNat_le.2 h) h1⟩
theorem put_walk (x v : Int) (a m : Nat) (h0 : 0 ≤ x) (h1 : x < 18446744073709551616) (hv0 : 0 ≤ v) (h : a + m ≤ 64) :
 bits .or .u64 (bits .andNot .u64 x (IntKind.u64.wrap (18446744073709551615 % 2 ^ m * 2 ^ a))) (IntKind.u64.wrap (v % 2 ^ m * 2 ^ a)) = ((putN x.toNat a m v.toNat : Nat) : Int) := by
 obtain ⟨X, rfl⟩ := Int.eq_ofNat_of_zero_le h0
 obtain ⟨V, rfl⟩ := Int.eq_ofNat_of_zero_le hv0
 have hle := pow_le64 (k := a + m) h
 have hm : 0 < 2 ^ m := Nat.pow_pos (n := m) (a := 2) (by omega)
 have ha : 0 < 2 ^ a := Nat.pow_pos (n := a) (a := 2) (by omega)
 have e1 : 18446744073709551615 % 2 ^ m = 2 ^ m - 1 := by
  have hd : 2 ^ m ∣ 18446744073709551616 := by
   have : (18446744073709551616 : Nat) = 2 ^ 64 := by decide
   rw [this]; exact Nat.pow_dvd_pow 2 (by omega)
  obtain ⟨q, hq⟩ := hd
  have hq0 : 0 < q := by
   rcases Nat.eq_zero_or_pos q with h | h
   ·subst h; omega
   ·exact h
  obtain ⟨r, rfl⟩ : ∃ r, q = r + 1 := ⟨q - 1, by omega⟩
  have : 18446744073709551615 = 2 ^ m - 1 + 2 ^ m * r := by rw [Nat.mul_add] at hq; omega
  rw [this, Nat.add_mul_mod_self_left]
  exact Nat.mod_eq_of_lt (by omega)
 have hb1 : (2 ^ m - 1) * 2 ^ a < 18446744073709551616 := by
  have : (2 ^ m - 1) * 2 ^ a < 2 ^ m * 2 ^ a := Nat.mul_lt_mul_of_pos_right (by omega) ha
  rw [← Nat.pow_add, Nat.add_comm] at this; omega
 have hb2 : V % 2 ^ m * 2 ^ a < 18446744073709551616 := by
  have : V % 2 ^ m * 2 ^ a < 2 ^ m * 2 ^ a := Nat.mul_lt_mul_of_pos_right (Nat.mod_lt _ hm) ha
  rw [← Nat.pow_add, Nat.add_comm] at this; omega
 have c1 : ((18446744073709551615 : Int) % 2 ^ m * 2 ^ a) = (((2 ^ m - 1) * 2 ^ a : Nat) : Int) := by
  rw [← e1, Int.natCast_mul, Int.natCast_emod, Int.natCast_pow, Int.natCast_pow]; rfl
 have c2 : ((V : Int) % 2 ^ m * 2 ^ a) = ((V % 2 ^ m * 2 ^ a : Nat) : Int) := by
  rw [Int.natCast_mul, Int.natCast_emod, Int.natCast_pow, Int.natCast_pow]; rfl
 rw [c1, c2, IntKind.wrap_u64, IntKind.wrap_u64, Int.emod_eq_of_lt (by omega) (by omega), Int.emod_eq_of_lt (by omega) (by omega)]
 have hX : X < 18446744073709551616 := by omega
 have hA : X &&& (18446744073709551615 - (2 ^ m - 1) * 2 ^ a) < 18446744073709551616 := Nat.lt_of_le_of_lt Nat.and_le_left hX
 rw [u64_andNot_nat X _ hX hb1, u64_or_nat _ _ hA hb2, put_bits X a m V hX h]
 simp
end Go.Proofs.YtdmmbnnejbmdpaaGreatDoor
end
section
namespace Go.Proofs.YtdmmbnnejbmdpaaGreatDoor
def onesL (r n : Nat) : List Nat := (List.range n).filter r.testBit
theorem low_bit : ∀ (r : Nat), 0 < r → ∃ t m, r = 2 ^ t * (2 * m + 1) := by
 intro r
 induction r using Nat.strongRecOn with
 | _ r ih =>
   intro h
   by_cases ho : r % 2 = 1
   ·exact ⟨0, r / 2, by omega⟩
   ·obtain ⟨t, m, e⟩ := ih (r / 2) (by omega) (by omega)
    refine ⟨t + 1, m, ?_⟩
    rw [Nat.pow_succ, Nat.mul_comm (2 ^ t) 2, Nat.mul_assoc, ← e]; omega
theorem odd_testBit (m j : Nat) : (2 * m + 1).testBit j = if j = 0 then true else m.testBit (j - 1) := by
 cases j with
 | zero => simp
 | succ k => rw [Nat.testBit_succ, show (2 * m + 1) / 2 = m by omega]; simp
theorem even_testBit (m j : Nat) : (2 * m).testBit j = if j = 0 then false else m.testBit (j - 1) := by
 cases j with
 | zero => simp
 | succ k => rw [Nat.testBit_succ, show (2 * m) / 2 = m by omega]; simp
theorem low_testBit (t m j : Nat) : (2 ^ t * (2 * m + 1)).testBit j = if j < t then false else if j = t then true else m.testBit (j - t - 1) := by
 rw [Nat.testBit_two_pow_mul, odd_testBit]
 by_cases h : j < t
 ·simp [h]; omega
 ·rw [if_neg h]
  by_cases e : j = t
  ·simp [e]
  ·rw [if_neg e, if_neg (by omega)]; simp; omega
theorem pred_testBit (t m j : Nat) : (2 ^ t * (2 * m + 1) - 1).testBit j = if j < t then true else if j = t then false else m.testBit (j - t - 1) := by
 have hp := Nat.pow_pos (n := t) (a := 2) (by omega)
 rw [show 2 ^ t * (2 * m + 1) - 1 = 2 ^ t * (2 * m) + (2 ^ t - 1) by rw [Nat.mul_add, Nat.mul_one]; omega, Nat.testBit_two_pow_mul_add _ (by omega), even_testBit, Nat.testBit_two_pow_sub_one]
 by_cases h : j < t
 ·simp [h]
 ·rw [if_neg h, if_neg h]
  by_cases e : j = t
  ·simp [e]
  ·rw [if_neg (by omega), if_neg e]
theorem clear_testBit (t m j : Nat) : ((2 ^ t * (2 * m + 1)) &&& (2 ^ t * (2 * m + 1) - 1)).testBit j = ((2 ^ t * (2 * m + 1)).testBit j && decide (j ≠ t)) := by
 rw [Nat.testBit_and, pred_testBit, low_testBit]
 by_cases h : j < t
 ·simp [h]
 ·by_cases e : j = t
  ·simp [e]
  ·simp [h, e]
theorem neg_and (t m : Nat) (h : 2 ^ t * (2 * m + 1) < 2 ^ 64) : (2 ^ t * (2 * m + 1)) &&& (2 ^ 64 - 2 ^ t * (2 * m + 1)) = 2 ^ t := by
 have hp := Nat.pow_pos (n := t) (a := 2) (by omega)
 have h0 : 0 < 2 ^ t * (2 * m + 1) := Nat.mul_pos hp (by omega)
 apply Nat.eq_of_testBit_eq
 intro j
 have e : 2 ^ 64 - 2 ^ t * (2 * m + 1) = 2 ^ 64 - ((2 ^ t * (2 * m + 1) - 1) + 1) := by omega
 rw [Nat.testBit_and, e, Nat.testBit_two_pow_sub_succ (by omega), pred_testBit, low_testBit, Nat.testBit_two_pow]
 have ht : t < 64 := by
  refine (Nat.pow_lt_pow_iff_right (a := 2) (by omega)).1 (Nat.lt_of_le_of_lt ?_ h)
  exact Nat.le_mul_of_pos_right _ (by omega)
 by_cases h1 : j < t
 ·simp [h1]; omega
 ·by_cases e1 : j = t
  ·simp [e1, ht]
  ·simp only [h1, e1, if_false]
   cases m.testBit (j - t - 1) <;> simp <;> omega
theorem tz_lt (t m : Nat) (h : 2 ^ t * (2 * m + 1) < 2 ^ 64) : t < 64 := by
 refine (Nat.pow_lt_pow_iff_right (a := 2) (by omega)).1 (Nat.lt_of_le_of_lt ?_ h)
 exact Nat.le_mul_of_pos_right _ (by omega)
theorem ones_step (t m n : Nat) (ht : t < n) : onesL (2 ^ t * (2 * m + 1)) n = t :: onesL ((2 ^ t * (2 * m + 1)) &&& (2 ^ t * (2 * m + 1) - 1)) n := by
 unfold onesL
 obtain ⟨k, rfl⟩ : ∃ k, n = t + 1 + k := ⟨n - t - 1, by omega⟩
 have hr : List.range (t + 1 + k) = List.range t ++ (t :: (List.range k).map (t + 1 + ·)) := by
  rw [List.range_add, List.range_succ, List.append_assoc]; rfl
 rw [hr, List.filter_append, List.filter_append]
 have e1 : (List.range t).filter (2 ^ t * (2 * m + 1)).testBit = [] := by
  rw [List.filter_eq_nil_iff]; intro i hi; rw [low_testBit]; simp at hi; simp [hi]
 have e2 : (List.range t).filter ((2 ^ t * (2 * m + 1)) &&& (2 ^ t * (2 * m + 1) - 1)).testBit = [] := by
  rw [List.filter_eq_nil_iff]; intro i hi; rw [clear_testBit, low_testBit]; simp at hi; simp [hi]
 rw [e1, e2, List.nil_append, List.nil_append, List.filter_cons, List.filter_cons, clear_testBit, low_testBit]
 simp only [Nat.lt_irrefl, if_false, if_true, ne_eq, not_true_eq_false, decide_false, Bool.and_false]
 congr 1
 apply List.filter_congr
 intro i hi
 rw [List.mem_map] at hi
 obtain ⟨q, _, rfl⟩ := hi
 rw [clear_testBit]
 simp
 intro _; omega
theorem ones_zero (n : Nat) : onesL 0 n = [] := by
 unfold onesL; rw [List.filter_eq_nil_iff]; intro i _; simp
def debTab : List Nat := [0, 1, 56, 2, 57, 49, 28, 3, 61, 58, 42, 50, 38, 29, 17, 4, 62, 47, 59, 36, 45, 43, 51, 22, 53, 39, 33, 30, 24, 18, 12, 5, 63, 55, 48, 27, 60, 41, 37, 16, 46, 35, 44, 21, 52, 32, 23, 11, 54, 26, 40, 15, 34, 20, 31, 10, 25, 14, 19, 9, 13, 8, 7, 6]
theorem deb_all : ∀ t : Fin 64, debTab.getD (2 ^ t.val * 285870213051353865 % 18446744073709551616 / 288230376151711744) 0 = t.val := by decide +kernel
end Go.Proofs.YtdmmbnnejbmdpaaGreatDoor
end
section
namespace Go.Proofs.YtdmmbnnejbmdpaaGreatDoor
section
variable {P : Program} {L : List Oper} {Q : Exit → Act → World → Prop} {md : Region.Mode} {S : World → Prop}
theorem takeL (i : Nat) {o : Oper} {v : Value} {fuel : Nat} {listed : Array Bool} {a : Act} {w : World} (hi : L[i]? = some o)
 (hs : Region.noSelect L.toArray = true) (hf : Region.free md L.toArray listed i = true) (hr : (Region.ready md L.toArray listed).contains i = true)
 (hQ : ∀ c a w, Q (.panic c) (a.put o.dst v) w → Q (.panic c) a w) (hw : Region.wanted o (yielded L.toArray a.tmps) = true) (hS : S w)
 (hy : ∀ w, S w → (execOp a.eval o).run P w = .ok (.value v) w)
 (h : wpAnyH P md L.toArray Q S fuel (listed.setIfInBounds i true) (a.put o.dst v) w) : wpAnyH P md L.toArray Q S (fuel + 1) listed a w :=
 wpAnyH_take (by simpa using hi) hs hf hr hQ (.inl ⟨hw, hy⟩) hS h
theorem idleL (i : Nat) {o : Oper} {fuel : Nat} {listed : Array Bool} {a : Act} {w : World} (hi : L[i]? = some o)
 (hs : Region.noSelect L.toArray = true) (hf : Region.free md L.toArray listed i = true) (hr : (Region.ready md L.toArray listed).contains i = true)
 (hQ : ∀ c a w, Q (.panic c) (a.put o.dst undef) w → Q (.panic c) a w) (hw : Region.wanted o (yielded L.toArray a.tmps) = false) (hS : S w)
 (h : wpAnyH P md L.toArray Q S fuel (listed.setIfInBounds i true) (a.put o.dst undef) w) : wpAnyH P md L.toArray Q S (fuel + 1) listed a w :=
 wpAnyH_take (by simpa using hi) hs hf hr hQ (.inr ⟨hw, rfl⟩) hS h
theorem oneL (i : Nat) {o : Oper} {fuel : Nat} {listed : Array Bool} {a : Act} {w : World} (hi : L[i]? = some o) (hr : Region.ready md L.toArray listed = [i])
 (h : ∀ K' : Act → World → Prop, Shut (∀ a w, S w → (S w → wpAnyH P md L.toArray Q S fuel (listed.setIfInBounds i true) a w) → K' a w) → if Region.wanted o (yielded L.toArray a.tmps) = true then Oper.wp P o a w K' Q else K' (a.put o.dst undef) w) :
 wpAnyH P md L.toArray Q S (fuel + 1) listed a w :=
 wpAnyH_ready hr (by simp) (AllReadyH.cons (by simpa using hi) h AllReadyH.nil)
theorem twoL (i j : Nat) {o o' : Oper} {fuel : Nat} {listed : Array Bool} {a : Act} {w : World} (hi : L[i]? = some o) (hj : L[j]? = some o') (hr : Region.ready md L.toArray listed = [i, j])
 (h : ∀ K' : Act → World → Prop, Shut (∀ a w, S w → (S w → wpAnyH P md L.toArray Q S fuel (listed.setIfInBounds i true) a w) → K' a w) → if Region.wanted o (yielded L.toArray a.tmps) = true then Oper.wp P o a w K' Q else K' (a.put o.dst undef) w)
 (h' : ∀ K' : Act → World → Prop, Shut (∀ a w, S w → (S w → wpAnyH P md L.toArray Q S fuel (listed.setIfInBounds j true) a w) → K' a w) → if Region.wanted o' (yielded L.toArray a.tmps) = true then Oper.wp P o' a w K' Q else K' (a.put o'.dst undef) w) :
 wpAnyH P md L.toArray Q S (fuel + 1) listed a w :=
 wpAnyH_ready hr (by simp) (AllReadyH.cons (by simpa using hi) h (AllReadyH.cons (by simpa using hj) h' AllReadyH.nil))
end
end Go.Proofs.YtdmmbnnejbmdpaaGreatDoor
end
section
namespace Go.Proofs.YtdmmbnnejbmdpaaGreatDoor
open Go.RowKit
def lowI (x m : Int) : Int := x % 2 ^ m.toNat
def getI (w a m : Int) : Int := ((getN w.toNat a.toNat m.toNat : Nat) : Int)
def putI (w a m v : Int) : Int := ((putN w.toNat a.toNat m.toNat v.toNat : Nat) : Int)
theorem fits_yes (a m : Int) (w : World) (h0 : 0 ≤ a) (h1 : 1 ≤ m) (h2 : m ≤ 64) (h3 : a ≤ 64 - m) :
 Calls Tryz.prog 119 #[.int .i64 a, .int .i64 m] w fun e w' => e = .returned (.bool true) ∧ w = w' := by
 go_enter Tryz.func119, Tryz.ntmps119
 go_wp2
 go_ret
 exact ⟨rfl, rfl⟩
theorem lowest_any (x m : Int) (w : World) (h0 : 0 ≤ x) (h1 : x < 18446744073709551616) (h2 : 0 ≤ m) (h : m ≤ 64) :
 Calls Tryz.prog 120 #[.int .u64 x, .int .i64 m] w fun e w' => e = .returned (.int .u64 (lowI x m)) ∧ w = w' := by
 by_cases h64 : m = 64
 ·subst h64
  go_enter Tryz.func120, Tryz.ntmps120
  go_wp2
  go_ret
  refine ⟨?_, rfl⟩
  show Ending.returned (.int .u64 x) = _
  unfold lowI
  rw [show ((64 : Int).toNat) = 64 from rfl, show ((2 : Int) ^ 64) = 18446744073709551616 from by decide, Int.emod_eq_of_lt h0 h1]
 ·have hlt : m < 64 := by omega
  go_enter Tryz.func120, Tryz.ntmps120
  go_wp2
  go_ret
  refine ⟨?_, rfl⟩
  rw [low_walk x m.toNat h0 h1 (by omega)]
  rfl
theorem get_yes (x a m : Int) (w : World) (h0 : 0 ≤ x) (h1 : x < 18446744073709551616) (ha : 0 ≤ a) (hm : 1 ≤ m) (h2 : m ≤ 64) (h3 : a ≤ 64 - m) :
 Calls Tryz.prog 101 #[.int .u64 x, .int .i64 a, .int .i64 m] w fun e w' => e = .returned (.int .u64 (getI x a m)) ∧ w = w' := by
 have h63 : a < 64 := by omega
 go_enter Tryz.func101, Tryz.ntmps101
 have hs := shr_bd x a.toNat h0 h1
 go_wp2_with (first | (go_at_call 119; refine (fits_yes _ _ _ ha hm h2 h3).mono ?_; rintro e w' ⟨rfl, rfl⟩) | (go_at_call 120; refine (lowest_any _ m _ hs.1 hs.2 (by omega) h2).mono ?_; rintro e w' ⟨rfl, rfl⟩))
 go_ret
 refine ⟨?_, rfl⟩
 show Ending.returned (.int .u64 (lowI (x / 2 ^ a.toNat) m)) = _
 unfold lowI getI getN
 obtain ⟨X, rfl⟩ := Int.eq_ofNat_of_zero_le h0
 rw [Int.natCast_emod, Int.natCast_ediv, Int.natCast_pow, Int.natCast_pow]
 rfl
theorem put_yes (x a m v : Int) (w : World) (h0 : 0 ≤ x) (h1 : x < 18446744073709551616) (ha : 0 ≤ a) (hm : 1 ≤ m) (h2 : m ≤ 64) (h3 : a ≤ 64 - m) (hv0 : 0 ≤ v) (hv1 : v < 18446744073709551616) :
 Calls Tryz.prog 129 #[.int .u64 x, .int .i64 a, .int .i64 m, .int .u64 v] w fun e w' => e = .returned (.int .u64 (putI x a m v)) ∧ w = w' := by
 have h63 : a < 64 := by omega
 go_enter Tryz.func129, Tryz.ntmps129
 go_wp2_with (first | (go_at_call 119; refine (fits_yes _ _ _ ha hm h2 h3).mono ?_; rintro e w' ⟨rfl, rfl⟩) | (go_at_call 120; refine (lowest_any _ m _ (by omega) (by omega) (by omega) h2).mono ?_; rintro e w' ⟨rfl, rfl⟩))
 go_ret
 refine ⟨?_, rfl⟩
 show Ending.returned (.int .u64 (bits BinOp.or IntKind.u64 (bits BinOp.andNot IntKind.u64 x (IntKind.u64.wrap (lowI 18446744073709551615 m * 2 ^ a.toNat))) (IntKind.u64.wrap (lowI v m * 2 ^ a.toNat)))) = _
 unfold lowI putI
 rw [put_walk x v a.toNat m.toNat h0 h1 hv0 (by omega)]
theorem getI_bd (x a m : Int) (h0 : 0 ≤ x) (h1 : x < 18446744073709551616) : 0 ≤ getI x a m ∧ getI x a m < 18446744073709551616 := by
 unfold getI getN
 have h2 : x.toNat / 2 ^ a.toNat % 2 ^ m.toNat ≤ x.toNat := Nat.le_trans (Nat.mod_le _ _) (Nat.div_le_self _ _)
 omega
end Go.Proofs.YtdmmbnnejbmdpaaGreatDoor
end
section
namespace Go.Proofs.YtdmmbnnejbmdpaaGreatDoor
section
variable {P : Program} {ops : Array Oper} {Q : Exit → Act → World → Prop} {md : Region.Mode} {S : World → Prop}
def wpAnyS (P : Program) (md : Region.Mode) (ops : Array Oper) (Q : Exit → Act → World → Prop) (S : World → Prop) (n : Nat) : Nat → Array Bool → Act → World → Prop
 | 0, listed, a, w => Region.ready md ops listed = [] ∧ Q .normal a w
 | fuel + 1, listed, a, w =>
   (Region.ready md ops listed = [] → Q .normal a w) ∧
   ∀ i ∈ Region.ready md ops listed, wpOp P ops Q i (fun a' w' => (i < n → S w') ∧ wpAnyS P md ops Q S n fuel (listed.setIfInBounds i true) a' w') a w
theorem wpAny_of_S {n : Nat} : ∀ (fuel : Nat) (listed : Array Bool) (a : Act) (w : World), wpAnyS P md ops Q S n fuel listed a w → wpAny P md ops Q fuel listed a w
 | 0, _, _, _, h => h
 | fuel + 1, _, _, _, h => ⟨h.1, fun i hi => wpOp_mono (fun a' w' h' => wpAny_of_S fuel _ a' w' h'.2) (h.2 i hi)⟩
structure TailAt (md : Region.Mode) (ops : Array Oper) (n : Nat) : Prop where
 sink : Region.sinkB md ops n = true
 chain : Region.chainB md ops n = true
 lt : n < ops.size
theorem tailAt {n : Nat} (h : (Region.sinkB md ops n && Region.chainB md ops n && decide (n < ops.size)) = true) : TailAt md ops n := by
 simp only [Bool.and_eq_true, decide_eq_true_eq] at h
 exact ⟨h.1.1, h.1.2, h.2⟩
theorem wpAnyS_first {n i : Nat} {oi : Oper} {v : Value} (T : TailAt md ops n) (hin : i < n) (hi : ops[i]? = some oi) (hsel : ∀ (j : Nat) (o : Oper) cs b, ops[j]? = some o → o.op ≠ .select cs b)
 (hQ : ∀ c a w, Q (.panic c) (a.put oi.dst v) w → Q (.panic c) a w) :
 ∀ (fuel : Nat) (listed : Array Bool) (a : Act) (w : World), HeadInv md ops n listed →
   (∀ j oj, ops[j]? = some oj → j ≠ i → listed.getD j true = false → (∀ e ∈ oj.after, Region.binds md e = true → e.on ≠ i) → oi.apart ops oj = true) →
   i ∈ Region.ready md ops listed → YieldsIf P ops S oi v a → S w →
   wpAnyS P md ops Q S n fuel (listed.setIfInBounds i true) (a.put oi.dst v) w → wpAnyS P md ops Q S n (fuel + 1) listed a w := by
 intro fuel
 induction fuel with
 | zero =>
   intro listed a w inv _ hr hy hS H
   refine ⟨fun h => (by rw [h] at hr; cases hr), fun j hj => ?_⟩
   by_cases hji : j = i
   ·subst hji; exact hy.wpOp hi hS ⟨fun _ => hS, H⟩
   ·have := ready_mono hj hji
    rw [H.1] at this
    cases this
 | succ fuel ih =>
   intro listed a w inv hfree hr hy hS H
   refine ⟨fun h => (by rw [h] at hr; cases hr), fun j hj => ?_⟩
   by_cases hji : j = i
   ·subst hji; exact hy.wpOp hi hS ⟨fun _ => hS, H⟩
   ·have hjn : j < n := by
     rcases Nat.lt_or_ge j n with h | h
     ·exact h
     ·exact absurd hj (tail_waits T.sink T.chain T.lt inv (n - i) i rfl hin (mem_ready.1 hr).1 j h)
    have h1 := H.2 j (ready_mono hj hji)
    obtain ⟨hjun, oj, hoj, hall⟩ := mem_ready.1 hj
    have hnot : ∀ e ∈ oj.after, Region.binds md e = true → e.on ≠ i := fun e he hb heq => by
     have h1 := hall e he hb
     have h0 := (mem_ready.1 hr).1
     rw [heq] at h1
     rcases Nat.lt_or_ge i listed.size with h' | h'
     ·simp [h'] at h0 h1; rw [h0] at h1; cases h1
     ·simp [Array.getElem?_eq_none h'] at h1
    have h2 := wpOp_putIf hoj (hfree j oj hoj hji hjun hnot) (fun cs b => hsel i oi cs b hi) (fun cs b => hsel j oj cs b hoj) hQ hy h1
    have hfree' : ∀ k ok, ops[k]? = some ok → k ≠ i → (listed.setIfInBounds j true).getD k true = false →
     (∀ e ∈ ok.after, Region.binds md e = true → e.on ≠ i) → oi.apart ops ok = true := fun k ok hk hki hun hno => by
     refine hfree k ok hk hki ?_ hno
     by_cases hjk : j = k
     ·subst hjk; exact hjun
     ·rw [getD_set_ne true hjk] at hun; exact hun
    refine wpOp_mono (fun a' w' h3 => ⟨fun _ => h3.2.1 hjn, ih (listed.setIfInBounds j true) a' w' (inv.set hj hjn) hfree' (ready_mono hr (Ne.symm hji)) h3.1 (h3.2.1 hjn) ?_⟩) h2
    rw [Array.setIfInBounds_comm _ _ hji]
    exact h3.2.2
theorem wpAnyS_done {n : Nat} {listed : Array Bool} {a : Act} {w : World} (hr : Region.ready md ops listed = []) (h : Q .normal a w) :
 ∀ fuel, wpAnyS P md ops Q S n fuel listed a w
 | 0 => ⟨hr, h⟩
 | _ + 1 => ⟨fun _ => h, by rw [hr]; simp⟩
theorem wp_region_tail {n id : Nat} {a : Act} {w : World} (hm : P.follows .mixedOrders = true) (hS : S w.drew)
 (h : S w.drew → HeadInv .any ops n (Array.replicate ops.size false) → wpAnyS P .any ops Q S n ops.size (Array.replicate ops.size false) a w.drew) (hn : n < ops.size) : (Code.region id ops true).wp P Q a w :=
 wp_region_any hm (wpAny_of_S _ _ _ _ (h hS ⟨by simp, fun j oj _ hl => (by rw [getD_replicate_false] at hl; cases hl), fun t _ ht => getD_in (by simpa using ht) (getD_replicate_false _ _)⟩))
end
section
variable {P : Program} {L : List Oper} {Q : Exit → Act → World → Prop} {md : Region.Mode} {S : World → Prop} {n : Nat}
theorem takeS (i : Nat) {o : Oper} {v : Value} {fuel : Nat} {listed : Array Bool} {a : Act} {w : World} (T : TailAt md L.toArray n) (inv : HeadInv md L.toArray n listed) (hin : i < n) (hi : L[i]? = some o)
 (hs : Region.noSelect L.toArray = true) (hf : Region.free md L.toArray listed i = true) (hr : (Region.ready md L.toArray listed).contains i = true)
 (hQ : ∀ c a w, Q (.panic c) (a.put o.dst v) w → Q (.panic c) a w) (hw : Region.wanted o (yielded L.toArray a.tmps) = true) (hS : S w)
 (hy : ∀ w, S w → (execOp a.eval o).run P w = .ok (.value v) w)
 (h : HeadInv md L.toArray n (listed.setIfInBounds i true) → wpAnyS P md L.toArray Q S n fuel (listed.setIfInBounds i true) (a.put o.dst v) w) : wpAnyS P md L.toArray Q S n (fuel + 1) listed a w :=
 have hr' : i ∈ Region.ready md L.toArray listed := by simpa using hr
 wpAnyS_first T hin (by simpa using hi) (Region.noSelect_spec hs) hQ fuel listed a w inv (Region.free_spec (by simpa using hi) hf) hr' (.inl ⟨hw, hy⟩) hS (h (inv.set hr' hin))
theorem oneS (i : Nat) {o : Oper} {fuel : Nat} {listed : Array Bool} {a : Act} {w : World} (inv : HeadInv md L.toArray n listed) (hin : i < n) (hi : L[i]? = some o) (hr : Region.ready md L.toArray listed = [i])
 (h : ∀ K' : Act → World → Prop, Shut (∀ a w, S w → (S w → HeadInv md L.toArray n (listed.setIfInBounds i true) → wpAnyS P md L.toArray Q S n fuel (listed.setIfInBounds i true) a w) → K' a w) → if Region.wanted o (yielded L.toArray a.tmps) = true then Oper.wp P o a w K' Q else K' (a.put o.dst undef) w) :
 wpAnyS P md L.toArray Q S n (fuel + 1) listed a w := by
 refine ⟨fun h0 => (by rw [hr] at h0; cases h0), fun j hj => ?_⟩
 rw [hr, List.mem_singleton] at hj
 subst hj
 exact wpOp_step (by simpa using hi) (fun K' hK => h K' (fun a w hS hW => hK a w ⟨fun _ => hS, hW hS (inv.set (by rw [hr]; simp) hin)⟩))
theorem twoS (i j : Nat) {o o' : Oper} {fuel : Nat} {listed : Array Bool} {a : Act} {w : World} (inv : HeadInv md L.toArray n listed) (hin : i < n) (hjn : j < n) (hi : L[i]? = some o) (hj : L[j]? = some o') (hr : Region.ready md L.toArray listed = [i, j])
 (h : ∀ K' : Act → World → Prop, Shut (∀ a w, S w → (S w → HeadInv md L.toArray n (listed.setIfInBounds i true) → wpAnyS P md L.toArray Q S n fuel (listed.setIfInBounds i true) a w) → K' a w) → if Region.wanted o (yielded L.toArray a.tmps) = true then Oper.wp P o a w K' Q else K' (a.put o.dst undef) w)
 (h' : ∀ K' : Act → World → Prop, Shut (∀ a w, S w → (S w → HeadInv md L.toArray n (listed.setIfInBounds j true) → wpAnyS P md L.toArray Q S n fuel (listed.setIfInBounds j true) a w) → K' a w) → if Region.wanted o' (yielded L.toArray a.tmps) = true then Oper.wp P o' a w K' Q else K' (a.put o'.dst undef) w) :
 wpAnyS P md L.toArray Q S n (fuel + 1) listed a w := by
 refine ⟨fun h0 => (by rw [hr] at h0; cases h0), fun k hk => ?_⟩
 rw [hr] at hk
 simp only [List.mem_cons, List.not_mem_nil, or_false] at hk
 rcases hk with rfl | rfl
 ·exact wpOp_step (by simpa using hi) (fun K' hK => h K' (fun a w hS hW => hK a w ⟨fun _ => hS, hW hS (inv.set (by rw [hr]; simp) hin)⟩))
 ·exact wpOp_step (by simpa using hj) (fun K' hK => h' K' (fun a w hS hW => hK a w ⟨fun _ => hS, hW hS (inv.set (by rw [hr]; simp) hjn)⟩))
theorem lastS (i : Nat) {o : Oper} {fuel : Nat} {listed : Array Bool} {a : Act} {w : World} (hi : L[i]? = some o) (hin : n ≤ i) (hr : Region.ready md L.toArray listed = [i])
 (h : ∀ K' : Act → World → Prop, Shut (∀ a w, wpAnyS P md L.toArray Q S n fuel (listed.setIfInBounds i true) a w → K' a w) → if Region.wanted o (yielded L.toArray a.tmps) = true then Oper.wp P o a w K' Q else K' (a.put o.dst undef) w) :
 wpAnyS P md L.toArray Q S n (fuel + 1) listed a w := by
 refine ⟨fun h0 => (by rw [hr] at h0; cases h0), fun j hj => ?_⟩
 rw [hr, List.mem_singleton] at hj
 subst hj
 exact wpOp_step (by simpa using hi) (fun K' hK => h K' (fun a w hW => hK a w ⟨fun h => absurd h (by omega), hW⟩))
end
end Go.Proofs.YtdmmbnnejbmdpaaGreatDoor
end
section
namespace Go.Proofs.YtdmmbnnejbmdpaaGreatDoor
def nI (x : Nat) : Int := x
end Go.Proofs.YtdmmbnnejbmdpaaGreatDoor
end
section
namespace Go.Proofs.YtdmmbnnejbmdpaaGreatDoor
def kN (x : Nat) : Nat := x % 8
def cN (x : Nat) : Nat := x / 8 % 4
def lnN (x : Nat) : Nat := x / 32 % 64
def mN (x : Nat) : Nat := x / 2048 % 8192
def bN (x : Nat) : Nat := x / 16777216 % 256
def RightN (x : Nat) : Prop := x < 4294967296 ∧ (((kN x = 0 ∨ kN x = 3) ∧ cN x = 0 ∧ lnN x = 0 ∧ mN x = 0 ∧ bN x = 0) ∨
 (kN x = 1 ∧ lnN x = 0 ∧ mN x = 0 ∧ ((cN x = 0 ∧ bN x < 256) ∨ (cN x = 1 ∧ bN x < 16) ∨ (cN x = 2 ∧ bN x < 4))) ∨
 (kN x = 2 ∧ cN x = 0 ∧ lnN x = 0 ∧ bN x = 0 ∧ 1 ≤ mN x ∧ mN x ≤ 8191) ∨ (kN x = 4 ∧ cN x = 0 ∧ bN x = 0 ∧ lnN x < 64 ∧ mN x ≤ 7))
instance (x : Nat) : Decidable (RightN x) := by unfold RightN; infer_instance
def okN (x : Nat) : Bool := decide (RightN x)
theorem okN_t {x : Nat} (h : okN x = true) : RightN x := of_decide_eq_true h
theorem parts_bd (x : Nat) : kN x < 8 ∧ cN x < 4 ∧ lnN x < 64 ∧ mN x < 8192 ∧ bN x < 256 := by
 unfold kN cN lnN mN bN; omega
def stepT (x n : Nat) : Option Nat := if decide (kN x = 3) = decide (0 < n) then some (if kN x = 3 then n - 1 else if kN x = 2 then mN x - 1 else n) else none
def runT (t : List Nat) : Nat → Option Nat
 | 0 => some 0
 | k + 1 => (runT t k).bind (stepT (t.getD k 0))
def rightT (t : List Nat) : Bool := t.all okN && (runT t t.length == some 0)
theorem runT_none {t : List Nat} {k : Nat} (h : runT t k = none) : ∀ j, k ≤ j → runT t j = none := by
 intro j hj
 induction j with
 | zero => obtain rfl : k = 0 := by omega
           exact h
 | succ j ih =>
   by_cases e : k = j + 1
   ·subst e; exact h
   ·have := ih (by omega)
    simp only [runT, this, Option.bind_none]
theorem all_at {t : List Nat} (h : t.all okN = true) {k : Nat} (hk : k < t.length) : okN (t.getD k 0) = true := by
 rw [List.getD_eq_getElem?_getD, List.getElem?_eq_getElem hk]
 exact List.all_eq_true.1 h _ (List.getElem_mem hk)
theorem runT_app (t u : List Nat) : ∀ k, k ≤ t.length → runT (t ++ u) k = runT t k
 | 0, _ => rfl
 | k + 1, hk => by
   simp only [runT]
   rw [runT_app t u k (by omega)]
   congr 2
   simp only [List.getD_eq_getElem?_getD]
   rw [List.getElem?_append_left (by omega)]
theorem runT_app2 (t u : List Nat) (h : runT t t.length = some 0) : ∀ j, runT (t ++ u) (t.length + j) = runT u j
 | 0 => by rw [Nat.add_zero, runT_app t u _ (Nat.le_refl _), h]; rfl
 | j + 1 => by
   rw [← Nat.add_assoc]
   simp only [runT]
   rw [runT_app2 t u h j]
   congr 2
   simp only [List.getD_eq_getElem?_getD]
   rw [List.getElem?_append_right (by omega)]
   congr 2
   omega
theorem rightT_t {t : List Nat} (h : rightT t = true) : t.all okN = true ∧ runT t t.length = some 0 := by
 simp only [rightT, Bool.and_eq_true, beq_iff_eq] at h; exact h
theorem rightT_mk {t : List Nat} (h1 : t.all okN = true) (h2 : runT t t.length = some 0) : rightT t = true := by
 simp only [rightT, Bool.and_eq_true, beq_iff_eq]; exact ⟨h1, h2⟩
theorem rightT_app {t u : List Nat} (h1 : rightT t = true) (h2 : rightT u = true) : rightT (t ++ u) = true := by
 obtain ⟨a1, b1⟩ := rightT_t h1
 obtain ⟨a2, b2⟩ := rightT_t h2
 refine rightT_mk (by rw [List.all_append, a1, a2]; rfl) ?_
 rw [List.length_append, runT_app2 t u b1, b2]
theorem rightT_one {x : Nat} (h : okN x = true) (h2 : ¬ kN x = 2) (h3 : ¬ kN x = 3) : rightT [x] = true := by
 refine rightT_mk (by simp [h]) ?_
 simp [runT, stepT, h2, h3]
theorem runT_huge (x n : Nat) (hk : kN x = 2) (hm : mN x = n + 1) : ∀ j, j ≤ n → runT (x :: List.replicate n 3) (j + 1) = some (n - j)
 | 0, _ => by simp [runT, stepT, hk, hm]
 | j + 1, hj => by
   rw [runT, runT_huge x n hk hm j (by omega)]
   have e : (x :: List.replicate n 3).getD (j + 1) 0 = 3 := by
    simp only [List.getD_eq_getElem?_getD, List.getElem?_cons_succ]
    rw [List.getElem?_replicate, if_pos (by omega)]
    rfl
   rw [e]
   have : kN 3 = 3 := rfl
   simp only [Option.bind_some, stepT, this]
   have h0 : 0 < n - j := by omega
   simp [h0]
   omega
theorem rightT_huge {x n : Nat} (h : okN x = true) (hk : kN x = 2) (hm : mN x = n + 1) : rightT (x :: List.replicate n 3) = true := by
 refine rightT_mk ?_ ?_
 ·rw [List.all_eq_true]
  intro y hy
  rcases List.mem_cons.1 hy with rfl | hy
  ·exact h
  ·have := List.eq_of_mem_replicate hy
   subst this
   decide
 ·have := runT_huge x n hk hm n (Nat.le_refl _)
  rw [List.length_cons, List.length_replicate, this, Nat.sub_self]
def tailB (t : List Nat) (n i : Nat) : Bool := (List.range n).any fun k => decide (kN (t.getD k 0) = 2) && decide (i < k + mN (t.getD k 0))
theorem tailB_succ (t : List Nat) (n i : Nat) : tailB t (n + 1) i = (tailB t n i || (decide (kN (t.getD n 0) = 2) && decide (i < n + mN (t.getD n 0)))) := by
 simp [tailB, List.range_succ, List.any_append]
def refRightN (t : List Nat) (n : Nat) : Bool := (List.range n).all fun i => (tailB t i i == decide (kN (t.getD i 0) = 3)) && !(decide (kN (t.getD i 0) = 2) && decide (t.length < i + mN (t.getD i 0)))
def refRightB (t : List Nat) : Bool := t.all okN && refRightN t t.length
theorem refRightN_succ (t : List Nat) (n : Nat) : refRightN t (n + 1) = (refRightN t n && ((tailB t n n == decide (kN (t.getD n 0) = 3)) && !(decide (kN (t.getD n 0) = 2) && decide (t.length < n + mN (t.getD n 0))))) := by
 simp [refRightN, List.range_succ, List.all_append]
theorem run_tail {t : List Nat} (hok : t.all okN = true) : ∀ p, p ≤ t.length →
 (∀ n, runT t p = some n → (∀ i, p ≤ i → tailB t p i = decide (i < p + n)) ∧ (refRightN t p = decide (∀ k, k < p → kN (t.getD k 0) = 2 → k + mN (t.getD k 0) ≤ t.length))) ∧ (runT t p = none → refRightN t p = false)
 | 0, _ => ⟨fun n h => by
     simp only [runT, Option.some.injEq] at h
     subst h
     refine ⟨fun i _ => by simp [tailB], by simp [refRightN]⟩, fun h => by simp [runT] at h⟩
 | p + 1, hp => by
   obtain ⟨h1, h2⟩ := run_tail hok p (by omega)
   simp only [runT]
   cases hr : runT t p with
   | none =>
     refine ⟨fun n h => by simp at h, fun _ => ?_⟩
     rw [refRightN_succ, h2 hr, Bool.false_and]
   | some n =>
     obtain ⟨ha, hb⟩ := h1 n hr
     have hx := okN_t (all_at hok (show p < t.length by omega))
     rw [refRightN_succ, hb, ha p (Nat.le_refl _)]
     simp only [Option.bind_some]
     generalize hxx : t.getD p 0 = x at *
     have hpn : decide (p < p + n) = decide (0 < n) := by by_cases h : 0 < n <;> simp [h]
     rw [hpn]
     unfold stepT
     by_cases hs : decide (kN x = 3) = decide (0 < n)
     ·rw [if_pos hs]
      refine ⟨fun m hm => ?_, fun h => by simp at h⟩
      simp only [Option.some.injEq] at hm
      refine ⟨fun i hi => ?_, ?_⟩
      ·rw [tailB_succ, ha i (by omega), hxx]
       rw [decide_eq_decide] at hs
       have hX := hx
       unfold RightN at hX
       by_cases k3 : kN x = 3
       ·have k2 : ¬ kN x = 2 := by omega
        rw [if_pos k3] at hm
        have := hs.1 k3
        simp [k2]
        omega
       ·rw [if_neg k3] at hm
        have hn0 : n = 0 := by
         by_cases e : 0 < n
         ·exact absurd (hs.2 e) k3
         ·omega
        subst hn0
        by_cases k2 : kN x = 2
        ·rw [if_pos k2] at hm
         rw [Bool.eq_iff_iff]
         simp only [k2, Bool.or_eq_true, Bool.and_eq_true, decide_eq_true_eq, true_and]
         omega
        ·rw [if_neg k2] at hm
         simp [k2]
         omega
      ·rw [hs]
       simp only [beq_self_eq_true, Bool.true_and]
       rw [Bool.eq_iff_iff]
       simp only [Bool.and_eq_true, decide_eq_true_eq, Bool.not_eq_true', Bool.and_eq_false_iff, decide_eq_false_iff_not]
       constructor
       ·rintro ⟨q1, q2⟩ k hk hk2
        by_cases e : k = p
        ·subst e
         rw [hxx] at hk2 ⊢
         rcases q2 with q2 | q2
         ·exact absurd hk2 q2
         ·omega
        ·exact q1 k (by omega) hk2
       ·intro q
        refine ⟨fun k hk => q k (by omega), ?_⟩
        by_cases k2 : kN x = 2
        ·right
         have := q p (by omega) (by rw [hxx]; exact k2)
         rw [hxx] at this
         omega
        ·exact .inl k2
     ·rw [if_neg hs]
      refine ⟨fun n h => by simp at h, fun _ => ?_⟩
      have : (decide (0 < n) == decide (kN x = 3)) = false := by
       rw [beq_eq_false_iff_ne]
       exact fun h => hs h.symm
      rw [this]
      simp
theorem right_same (t : List Nat) : refRightB t = rightT t := by
 unfold refRightB rightT
 cases hok : t.all okN with
 | false => simp
 | true =>
   simp only [Bool.true_and]
   obtain ⟨h1, h2⟩ := run_tail hok t.length (Nat.le_refl _)
   cases hr : runT t t.length with
   | none => rw [h2 hr]; rfl
   | some n =>
     obtain ⟨ha, hb⟩ := h1 n hr
     rw [hb]
     have hq := ha t.length (Nat.le_refl _)
     rw [Bool.eq_iff_iff]
     simp only [decide_eq_true_eq, beq_iff_eq, Option.some.injEq]
     constructor
     ·intro q
      by_cases e : 0 < n
      ·rw [decide_eq_true (by omega)] at hq
       obtain ⟨k, hk, hk2⟩ := List.any_eq_true.1 hq
       simp only [Bool.and_eq_true, decide_eq_true_eq] at hk2
       have := q k (List.mem_range.1 hk) hk2.1
       omega
      ·omega
     ·rintro rfl k hk hk2
      rw [decide_eq_false (by omega)] at hq
      have := List.any_eq_false.1 hq k (List.mem_range.2 hk)
      simp only [Bool.and_eq_true, decide_eq_true_eq, not_and] at this
      have := this hk2
      omega
abbrev Bl := Nat × Nat × Nat
def mnN (c : Nat) : Nat := if c = 0 then 8 else if c = 1 then 4 else if c = 2 then 2 else 0
def blN (c : Nat) : Nat := if c = 0 then 4 else if c = 1 then 8 else if c = 2 then 16 else 0
def liveL (b m : Nat) : List Nat := (List.range m).filter b.testBit
def blksAt (i x : Nat) : List Bl := if kN x = 1 then (liveL (bN x) (mnN (cN x))).map (fun j => (i, j, blN (cN x))) else if kN x = 2 then [(i, 0, mN x * 32)] else []
def blksFrom : Nat → List Nat → List Bl
 | _, [] => []
 | o, x :: t => blksAt o x ++ blksFrom (o + 1) t
def blksT (t : List Nat) : List Bl := if t.all okN then blksFrom 0 t else []
theorem blksFrom_app : ∀ (o : Nat) (t u : List Nat), blksFrom o (t ++ u) = blksFrom o t ++ blksFrom (o + t.length) u
 | o, [], u => by simp [blksFrom]
 | o, x :: t, u => by
   simp only [List.cons_append, blksFrom, blksFrom_app (o + 1) t u, List.append_assoc, List.length_cons]
   rw [show o + 1 + t.length = o + (t.length + 1) by omega]
theorem blksFrom_take (t : List Nat) (k : Nat) (hk : k < t.length) : blksFrom 0 (t.take (k + 1)) = blksFrom 0 (t.take k) ++ blksAt k (t.getD k 0) := by
 rw [List.take_succ_eq_append_getElem hk, blksFrom_app]
 congr 1
 simp only [blksFrom, List.append_nil, Nat.zero_add, List.length_take]
 rw [Nat.min_eq_left (by omega), List.getD_eq_getElem?_getD, List.getElem?_eq_getElem hk]
 rfl
theorem liveL_len (b m : Nat) : (liveL b m).length ≤ m := by
 unfold liveL
 refine Nat.le_trans (List.length_filter_le _ _) ?_
 rw [List.length_range]; exact Nat.le_refl _
theorem mnN_le (c : Nat) : mnN c ≤ 8 := by unfold mnN; split <;> (try split) <;> (try split) <;> omega
theorem blksAt_len (i x : Nat) : (blksAt i x).length ≤ 8 := by
 unfold blksAt
 split
 ·rw [List.length_map]; exact Nat.le_trans (liveL_len _ _) (mnN_le _)
 ·split <;> simp
theorem blksFrom_len : ∀ (o : Nat) (t : List Nat), (blksFrom o t).length ≤ 8 * t.length
 | _, [] => by simp [blksFrom]
 | o, x :: t => by
   rw [blksFrom, List.length_append, List.length_cons]
   have := blksAt_len o x
   have := blksFrom_len (o + 1) t
   omega
end Go.Proofs.YtdmmbnnejbmdpaaGreatDoor
end
section
namespace Go.Proofs.YtdmmbnnejbmdpaaGreatDoor
abbrev Sp := Int × Int
def totS (l : List Sp) : Int := (l.map (·.2)).sum
theorem totS_nil : totS [] = 0 := rfl
theorem totS_cons (x : Sp) (l : List Sp) : totS (x :: l) = x.2 + totS l := by unfold totS; simp
end Go.Proofs.YtdmmbnnejbmdpaaGreatDoor
end
