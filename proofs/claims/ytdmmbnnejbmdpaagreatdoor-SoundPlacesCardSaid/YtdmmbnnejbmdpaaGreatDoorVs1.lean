/-
  Part of the proof of SoundPlaces.
-/
import Derived.Handy
import Derived.Lib.Hide
import Derived.OpenShut
import Derived.ProofKit
import Derived.Laws.BitsAllLaws
import Derived.Test.YtdmmbnnejbmdpaaGreatDoorVs0
set_option linter.unusedVariables false
set_option linter.unusedSimpArgs false
section
namespace Go.Proofs.YtdmmbnnejbmdpaaGreatDoor
open Go.RowKit Go.ChangeShapes
theorem ret_b {a b : Bool} (h : a = b) : Ending.returned (.bool a) = .returned (.bool b) := by rw [h]
theorem ret_i {k : IntKind} {a b : Int} (h : a = b) : Ending.returned (.int k a) = .returned (.int k b) := by rw [h]
theorem bcell {W w1 : World} (hb : Below W.heap.size W w1) : (∀ b o, b < W.heap.size → w1.cell? ⟨b, o, none⟩ = W.cell? ⟨b, o, none⟩) ∧ (∀ b o, b < W.heap.size → w1.frozen? ⟨b, o, none⟩ = W.frozen? ⟨b, o, none⟩) :=
 ⟨fun b o h => hb.cell (p := ⟨b, o, none⟩) h, fun b o h => hb.frozen (p := ⟨b, o, none⟩) h⟩
theorem post_of_below {H : Type} {enc : TypeId × Value → H} {P : Program} {f : Func} {s : ChangeSpec} {apart fresh handsOn again : Bool} {W W' : World} {args : Array Value} {v : Value} {ds gs : List (DataW H)} {before pa pv : List MemPlace}
 (hW : DataW.Whole enc P f.params.toList s.vars apart W args.toList ds gs before)
 (hres : ∀ (b : Nat) (sp : Nat → Bool) (hd : Bool), DataW.TrodAll enc P W' b sp hd f.resultTypes.toList (v.resultList f.resultTypes.size) (s.fn H (ds ++ gs)).results [])
 (hargs : ∀ sp : Nat → Bool, (∀ p ∈ before, sp p.block = true) → DataW.TrodAll enc P W' 0 sp true f.params.toList args.toList (s.fn H (ds ++ gs)).args pa)
 (hvars : ∀ sp : Nat → Bool, (∀ p ∈ before, sp p.block = true) → DataW.TrodVars enc P W' sp s.vars (s.fn H (ds ++ gs)).vars pv)
 (hps : before = pa ++ pv) (hb : Below W.heap.size W W')
 (hok : ∀ (j : Nat) (t : TypeId) (r : Value), f.resultTypes[j]? = some t → (v.resultList f.resultTypes.size)[j]? = some r → Value.okWide P W' .any 0 t r) :
 s.post enc P f apart fresh handsOn again W args v W' := by
 have hold : ∀ p ∈ before, (fun b => decide (b < W.heap.size)) p.block = true := fun p hp => by simpa using hW.lt p hp
 refine ⟨ds, gs, before, [], pa, pv, hW, hres _ _ _, hargs _ hold, hvars _ hold, World.keptBut_mono (fun p hp => ⟨hp, ?_⟩) (hb.frame _), fun _ => ?_⟩
 ·rw [hps, List.mem_append] at hp
  exact Or.inr hp
 ·have hlt := hW.lt
  obtain ⟨_, _, _, _, _, hz, hn⟩ := hW
  refine ⟨hok, _, _, ([] ++ pa) ++ pv, ⟨[] ++ pa, pv, trodAll_append (hargs _ (fun _ _ => rfl)) (hres _ _ _), hvars _ (fun _ _ => rfl), rfl, ?_, ?_⟩, ?_⟩
  ·intro b off hp
   have hp' : MemPlace.cell b off ∈ before := by rw [hps]; simpa using hp
   rw [hb.frozen (p := ⟨b, off, none⟩) (hlt _ hp')]
   exact hz b off hp'
  ·intro ha
   have := hn ha
   rw [hps] at this
   simpa using this
  ·intro p hp _
   rw [hps]
   simpa using hp
end Go.Proofs.YtdmmbnnejbmdpaaGreatDoor
end
section
namespace Go.Proofs.YtdmmbnnejbmdpaaGreatDoor
def onesL (r n : Nat) : List Nat := (List.range n).filter r.testBit
theorem low_bit : ∀ (r : Nat), 0 < r → ∃ t m, r = 2 ^ t * (2 * m + 1) := by
 intro r
 induction r using Nat.strongRecOn with
 | _ r ih =>
   intro h
   by_cases ho : r % 2 = 1
   ·exact ⟨0, r / 2, by omega⟩
   ·obtain ⟨t, m, e⟩ := ih (r / 2) (by omega) (by omega)
    refine ⟨t + 1, m, ?_⟩
    rw [Nat.pow_succ, Nat.mul_comm (2 ^ t) 2, Nat.mul_assoc, ← e]; omega
theorem odd_testBit (m j : Nat) : (2 * m + 1).testBit j = if j = 0 then true else m.testBit (j - 1) := by
 cases j with
 | zero => simp
 | succ k => rw [Nat.testBit_succ, show (2 * m + 1) / 2 = m by omega]; simp
theorem even_testBit (m j : Nat) : (2 * m).testBit j = if j = 0 then false else m.testBit (j - 1) := by
 cases j with
 | zero => simp
 | succ k => rw [Nat.testBit_succ, show (2 * m) / 2 = m by omega]; simp
theorem low_testBit (t m j : Nat) : (2 ^ t * (2 * m + 1)).testBit j = if j < t then false else if j = t then true else m.testBit (j - t - 1) := by
 rw [Nat.testBit_two_pow_mul, odd_testBit]
 by_cases h : j < t
 ·simp [h]; omega
 ·rw [if_neg h]
  by_cases e : j = t
  ·simp [e]
  ·rw [if_neg e, if_neg (by omega)]; simp; omega
theorem pred_testBit (t m j : Nat) : (2 ^ t * (2 * m + 1) - 1).testBit j = if j < t then true else if j = t then false else m.testBit (j - t - 1) := by
 have hp := Nat.pow_pos (n := t) (a := 2) (by omega)
 rw [show 2 ^ t * (2 * m + 1) - 1 = 2 ^ t * (2 * m) + (2 ^ t - 1) by rw [Nat.mul_add, Nat.mul_one]; omega, Nat.testBit_two_pow_mul_add _ (by omega), even_testBit, Nat.testBit_two_pow_sub_one]
 by_cases h : j < t
 ·simp [h]
 ·rw [if_neg h, if_neg h]
  by_cases e : j = t
  ·simp [e]
  ·rw [if_neg (by omega), if_neg e]
theorem clear_testBit (t m j : Nat) : ((2 ^ t * (2 * m + 1)) &&& (2 ^ t * (2 * m + 1) - 1)).testBit j = ((2 ^ t * (2 * m + 1)).testBit j && decide (j ≠ t)) := by
 rw [Nat.testBit_and, pred_testBit, low_testBit]
 by_cases h : j < t
 ·simp [h]
 ·by_cases e : j = t
  ·simp [e]
  ·simp [h, e]
theorem neg_and (t m : Nat) (h : 2 ^ t * (2 * m + 1) < 2 ^ 64) : (2 ^ t * (2 * m + 1)) &&& (2 ^ 64 - 2 ^ t * (2 * m + 1)) = 2 ^ t := by
 have hp := Nat.pow_pos (n := t) (a := 2) (by omega)
 have h0 : 0 < 2 ^ t * (2 * m + 1) := Nat.mul_pos hp (by omega)
 apply Nat.eq_of_testBit_eq
 intro j
 have e : 2 ^ 64 - 2 ^ t * (2 * m + 1) = 2 ^ 64 - ((2 ^ t * (2 * m + 1) - 1) + 1) := by omega
 rw [Nat.testBit_and, e, Nat.testBit_two_pow_sub_succ (by omega), pred_testBit, low_testBit, Nat.testBit_two_pow]
 have ht : t < 64 := by
  refine (Nat.pow_lt_pow_iff_right (a := 2) (by omega)).1 (Nat.lt_of_le_of_lt ?_ h)
  exact Nat.le_mul_of_pos_right _ (by omega)
 by_cases h1 : j < t
 ·simp [h1]; omega
 ·by_cases e1 : j = t
  ·simp [e1, ht]
  ·simp only [h1, e1, if_false]
   cases m.testBit (j - t - 1) <;> simp <;> omega
theorem tz_lt (t m : Nat) (h : 2 ^ t * (2 * m + 1) < 2 ^ 64) : t < 64 := by
 refine (Nat.pow_lt_pow_iff_right (a := 2) (by omega)).1 (Nat.lt_of_le_of_lt ?_ h)
 exact Nat.le_mul_of_pos_right _ (by omega)
theorem ones_step (t m n : Nat) (ht : t < n) : onesL (2 ^ t * (2 * m + 1)) n = t :: onesL ((2 ^ t * (2 * m + 1)) &&& (2 ^ t * (2 * m + 1) - 1)) n := by
 unfold onesL
 obtain ⟨k, rfl⟩ : ∃ k, n = t + 1 + k := ⟨n - t - 1, by omega⟩
 have hr : List.range (t + 1 + k) = List.range t ++ (t :: (List.range k).map (t + 1 + ·)) := by
  rw [List.range_add, List.range_succ, List.append_assoc]; rfl
 rw [hr, List.filter_append, List.filter_append]
 have e1 : (List.range t).filter (2 ^ t * (2 * m + 1)).testBit = [] := by
  rw [List.filter_eq_nil_iff]; intro i hi; rw [low_testBit]; simp at hi; simp [hi]
 have e2 : (List.range t).filter ((2 ^ t * (2 * m + 1)) &&& (2 ^ t * (2 * m + 1) - 1)).testBit = [] := by
  rw [List.filter_eq_nil_iff]; intro i hi; rw [clear_testBit, low_testBit]; simp at hi; simp [hi]
 rw [e1, e2, List.nil_append, List.nil_append, List.filter_cons, List.filter_cons, clear_testBit, low_testBit]
 simp only [Nat.lt_irrefl, if_false, if_true, ne_eq, not_true_eq_false, decide_false, Bool.and_false]
 congr 1
 apply List.filter_congr
 intro i hi
 rw [List.mem_map] at hi
 obtain ⟨q, _, rfl⟩ := hi
 rw [clear_testBit]
 simp
 intro _; omega
theorem ones_zero (n : Nat) : onesL 0 n = [] := by
 unfold onesL; rw [List.filter_eq_nil_iff]; intro i _; simp
def debTab : List Nat := [0, 1, 56, 2, 57, 49, 28, 3, 61, 58, 42, 50, 38, 29, 17, 4, 62, 47, 59, 36, 45, 43, 51, 22, 53, 39, 33, 30, 24, 18, 12, 5, 63, 55, 48, 27, 60, 41, 37, 16, 46, 35, 44, 21, 52, 32, 23, 11, 54, 26, 40, 15, 34, 20, 31, 10, 25, 14, 19, 9, 13, 8, 7, 6]
theorem deb_all : ∀ t : Fin 64, debTab.getD (2 ^ t.val * 285870213051353865 % 18446744073709551616 / 288230376151711744) 0 = t.val := by decide +kernel
end Go.Proofs.YtdmmbnnejbmdpaaGreatDoor
end
