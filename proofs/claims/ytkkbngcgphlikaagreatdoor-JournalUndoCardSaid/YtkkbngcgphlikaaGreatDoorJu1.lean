/-
  Part of the proof of JournalUndo.
-/
import Derived.Test.YtkkbngcgphlikaaGreatDoorRows
import Derived.Handy
import Derived.Lib.Hide
import Derived.WalkLawsBesides
import Derived.WalkSpells
import Derived.Test.YtkkbngcgphlikaaGreatDoorJu0
set_option maxRecDepth 10000
set_option maxHeartbeats 1000000
set_option linter.unusedVariables false
set_option linter.unusedSimpArgs false
section
namespace Go.Proofs.YtkkbngcgphlikaaGreatDoor
open Go.RowKit Go.ChangeShapes
theorem ret_b {a b : Bool} (h : a = b) : Ending.returned (.bool a) = .returned (.bool b) := by rw [h]
theorem ret_i {k : IntKind} {a b : Int} (h : a = b) : Ending.returned (.int k a) = .returned (.int k b) := by rw [h]
theorem bcell {W w1 : World} (hb : Below W.heap.size W w1) : (∀ b o, b < W.heap.size → w1.cell? ⟨b, o, none⟩ = W.cell? ⟨b, o, none⟩) ∧ (∀ b o, b < W.heap.size → w1.frozen? ⟨b, o, none⟩ = W.frozen? ⟨b, o, none⟩) :=
 ⟨fun b o h => hb.cell (p := ⟨b, o, none⟩) h, fun b o h => hb.frozen (p := ⟨b, o, none⟩) h⟩
theorem belowStep {B : Nat} {a b c : World} (h : Below B a b) (hB : B ≤ b.heap.size) (k : Below b.heap.size b c) : Below B a c ∧ B ≤ c.heap.size :=
 ⟨h.trans (k.mono hB), Nat.le_trans hB k.size⟩
theorem post_of_below {H : Type} {enc : TypeId × Value → H} {P : Program} {f : Func} {s : ChangeSpec} {apart fresh handsOn again : Bool} {W W' : World} {args : Array Value} {v : Value} {ds gs : List (DataW H)} {before pa pv : List MemPlace}
 (hW : DataW.Whole enc P f.params.toList s.vars apart W args.toList ds gs before)
 (hres : ∀ (b : Nat) (sp : Nat → Bool) (hd : Bool), DataW.TrodAll enc P W' b sp hd f.resultTypes.toList (v.resultList f.resultTypes.size) (s.fn H (ds ++ gs)).results [])
 (hargs : ∀ sp : Nat → Bool, (∀ p ∈ before, sp p.block = true) → DataW.TrodAll enc P W' 0 sp true f.params.toList args.toList (s.fn H (ds ++ gs)).args pa)
 (hvars : ∀ sp : Nat → Bool, (∀ p ∈ before, sp p.block = true) → DataW.TrodVars enc P W' sp s.vars (s.fn H (ds ++ gs)).vars pv)
 (hps : before = pa ++ pv) (hb : Below W.heap.size W W')
 (hok : ∀ (j : Nat) (t : TypeId) (r : Value), f.resultTypes[j]? = some t → (v.resultList f.resultTypes.size)[j]? = some r → Value.okWide P W' .any 0 t r) :
 s.post enc P f apart fresh handsOn again W args v W' := by
 have hold : ∀ p ∈ before, (fun b => decide (b < W.heap.size)) p.block = true := fun p hp => by simpa using hW.lt p hp
 refine ⟨ds, gs, before, [], pa, pv, hW, hres _ _ _, hargs _ hold, hvars _ hold, World.keptBut_mono (fun p hp => ⟨hp, ?_⟩) (hb.frame _), fun _ => ?_⟩
 ·rw [hps, List.mem_append] at hp
  exact Or.inr hp
 have hlt := hW.lt
 obtain ⟨_, _, _, _, _, hz, hn⟩ := hW
 refine ⟨hok, _, _, ([] ++ pa) ++ pv, ⟨[] ++ pa, pv, trodAll_append (hargs _ (fun _ _ => rfl)) (hres _ _ _), hvars _ (fun _ _ => rfl), rfl, ?_, ?_⟩, ?_⟩
 ·intro b off hp
  have hp' : MemPlace.cell b off ∈ before := by rw [hps]; simpa using hp
  rw [hb.frozen (p := ⟨b, off, none⟩) (hlt _ hp')]
  exact hz b off hp'
 ·intro ha
  have := hn ha
  rw [hps] at this
  simpa using this
 intro p hp _
 rw [hps]
 simpa using hp
end Go.Proofs.YtkkbngcgphlikaaGreatDoor
end
section
namespace Go.Proofs.YtkkbngcgphlikaaGreatDoor
def getN (w a m : Nat) : Nat := w / 2 ^ a % 2 ^ m
def putN (w a m v : Nat) : Nat := w % 2 ^ a + v % 2 ^ m * 2 ^ a + w / 2 ^ (a + m) * 2 ^ (a + m)
theorem pow_le64 {k : Nat} (h : k ≤ 64) : 2 ^ k ≤ 18446744073709551616 := by
 have := Nat.pow_le_pow_right (by omega : 2 > 0) (show k ≤ 64 by omega)
 simpa using this
theorem pow_lt64 {k : Nat} (h : k < 64) : 2 ^ k ≤ 9223372036854775808 := by
 have := Nat.pow_le_pow_right (by omega : 2 > 0) (show k ≤ 63 by omega)
 simpa using this
theorem putN_eq (w a m v : Nat) : putN w a m v = 2 ^ a * (2 ^ m * (w / 2 ^ (a + m)) + v % 2 ^ m) + w % 2 ^ a := by
 unfold putN
 rw [Nat.mul_add, ← Nat.mul_assoc, ← Nat.pow_add, Nat.mul_comm (v % 2 ^ m), Nat.mul_comm (w / 2 ^ (a + m))]
 omega
theorem putN_testBit (w a m v i : Nat) : (putN w a m v).testBit i = if a ≤ i ∧ i < a + m then v.testBit (i - a) else w.testBit i := by
 rw [putN_eq, Nat.testBit_two_pow_mul_add _ (Nat.mod_lt _ (Nat.pow_pos (by omega)))]
 by_cases h : i < a
 ·rw [if_pos h, if_neg (by omega), Nat.testBit_mod_two_pow]; simp [h]
 rw [if_neg h, Nat.testBit_two_pow_mul_add _ (Nat.mod_lt _ (Nat.pow_pos (by omega)))]
 by_cases h2 : i - a < m
 ·rw [if_pos h2, if_pos (by omega), Nat.testBit_mod_two_pow]; simp [h2]
 rw [if_neg h2, if_neg (by omega), Nat.testBit_div_two_pow]
 congr 1; omega
theorem getN_lt (w a m : Nat) : getN w a m < 2 ^ m := Nat.mod_lt _ (Nat.pow_pos (by omega))
theorem put_bits (w a m v : Nat) (hw : w < 18446744073709551616) (h : a + m ≤ 64) :
 (w &&& (18446744073709551615 - (2 ^ m - 1) * 2 ^ a)) ||| (v % 2 ^ m * 2 ^ a) = putN w a m v := by
 apply Nat.eq_of_testBit_eq
 intro i
 have hb : (2 ^ m - 1) * 2 ^ a < 2 ^ 64 := by
  have h1 : (2 ^ m - 1) * 2 ^ a < 2 ^ m * 2 ^ a := Nat.mul_lt_mul_of_pos_right (by have := Nat.pow_pos (n := m) (a := 2) (by omega); omega) (Nat.pow_pos (by omega))
  have h2 : 2 ^ m * 2 ^ a ≤ 2 ^ 64 := by rw [← Nat.pow_add]; exact Nat.pow_le_pow_right (by omega) (by omega)
  omega
 have e : 18446744073709551615 - (2 ^ m - 1) * 2 ^ a = 2 ^ 64 - ((2 ^ m - 1) * 2 ^ a + 1) := by omega
 rw [putN_testBit, Nat.testBit_or, Nat.testBit_and, e, Nat.testBit_two_pow_sub_succ hb, Nat.testBit_mul_two_pow, Nat.testBit_mul_two_pow, Nat.testBit_two_pow_sub_one, Nat.testBit_mod_two_pow]
 have hi64 : ¬ i < 64 → w.testBit i = false := fun hi => Nat.testBit_lt_two_pow (Nat.lt_of_lt_of_le hw (Nat.pow_le_pow_right (by omega : 2 > 0) (show 64 ≤ i by omega)))
 by_cases h1 : a ≤ i
 ·by_cases h2 : i - a < m
  ·rw [if_pos (by omega)]; simp [h1, h2]
  rw [if_neg (by omega)]
  by_cases h3 : i < 64
  ·simp [h1, h2, h3]
  simp [h1, h2, h3, hi64 h3]
 rw [if_neg (by omega)]
 by_cases h3 : i < 64
 ·simp [h1, h3]
 simp [h1, h3, hi64 h3]
theorem pow_cast (k : Nat) : ((2 : Int) ^ k) = ((2 ^ k : Nat) : Int) := by simp
theorem low_walk (x : Int) (k : Nat) (h0 : 0 ≤ x) (h1 : x < 18446744073709551616) (h : k < 64) :
 bits .and .u64 x (IntKind.u64.wrap (IntKind.u64.wrap (2 ^ k) - 1)) = x % 2 ^ k := by
 have hp := pow_lt64 h
 have hq : 0 < 2 ^ k := Nat.pow_pos (n := k) (a := 2) (by omega)
 obtain ⟨X, rfl⟩ := Int.eq_ofNat_of_zero_le h0
 rw [pow_cast, IntKind.wrap_u64, IntKind.wrap_u64, Int.emod_eq_of_lt (by omega) (by omega), Int.emod_eq_of_lt (by omega) (by omega)]
 have e : ((2 ^ k : Nat) : Int) - 1 = ((2 ^ k - 1 : Nat) : Int) := by omega
 rw [e, u64_and_nat X (2 ^ k - 1) (by omega) (by omega), Nat.and_two_pow_sub_one_eq_mod]
 exact Int.natCast_emod _ _
theorem shr_bd (x : Int) (k : Nat) (h0 : 0 ≤ x) (h1 : x < 18446744073709551616) : 0 ≤ x / 2 ^ k ∧ x / 2 ^ k < 18446744073709551616 := by
 obtain ⟨X, rfl⟩ := Int.eq_ofNat_of_zero_le h0
 have h : X / 2 ^ k ≤ X := Nat.div_le_self _ _
 rw [pow_cast, ← Int.natCast_ediv]
 exact ⟨Int.natCast_nonneg _, Int.lt_of_le_of_lt (Int.ofNat_le.2 h) h1⟩
theorem put_walk (x v : Int) (a m : Nat) (h0 : 0 ≤ x) (h1 : x < 18446744073709551616) (hv0 : 0 ≤ v) (h : a + m ≤ 64) :
 bits .or .u64 (bits .andNot .u64 x (IntKind.u64.wrap (18446744073709551615 % 2 ^ m * 2 ^ a))) (IntKind.u64.wrap (v % 2 ^ m * 2 ^ a)) = ((putN x.toNat a m v.toNat : Nat) : Int) := by
 obtain ⟨X, rfl⟩ := Int.eq_ofNat_of_zero_le h0
 obtain ⟨V, rfl⟩ := Int.eq_ofNat_of_zero_le hv0
 have hle := pow_le64 (k := a + m) h
 have hm : 0 < 2 ^ m := Nat.pow_pos (n := m) (a := 2) (by omega)
 have ha : 0 < 2 ^ a := Nat.pow_pos (n := a) (a := 2) (by omega)
 have e1 : 18446744073709551615 % 2 ^ m = 2 ^ m - 1 := by
  have hd : 2 ^ m ∣ 18446744073709551616 := by
   have : (18446744073709551616 : Nat) = 2 ^ 64 := by decide
   rw [this]; exact Nat.pow_dvd_pow 2 (by omega)
  obtain ⟨q, hq⟩ := hd
  have hq0 : 0 < q := by
   rcases Nat.eq_zero_or_pos q with h | h
   ·subst h; omega
   exact h
  obtain ⟨r, rfl⟩ : ∃ r, q = r + 1 := ⟨q - 1, by omega⟩
  have : 18446744073709551615 = 2 ^ m - 1 + 2 ^ m * r := by rw [Nat.mul_add] at hq; omega
  rw [this, Nat.add_mul_mod_self_left]
  exact Nat.mod_eq_of_lt (by omega)
 have hb1 : (2 ^ m - 1) * 2 ^ a < 18446744073709551616 := by
  have : (2 ^ m - 1) * 2 ^ a < 2 ^ m * 2 ^ a := Nat.mul_lt_mul_of_pos_right (by omega) ha
  rw [← Nat.pow_add, Nat.add_comm] at this; omega
 have hb2 : V % 2 ^ m * 2 ^ a < 18446744073709551616 := by
  have : V % 2 ^ m * 2 ^ a < 2 ^ m * 2 ^ a := Nat.mul_lt_mul_of_pos_right (Nat.mod_lt _ hm) ha
  rw [← Nat.pow_add, Nat.add_comm] at this; omega
 have c1 : ((18446744073709551615 : Int) % 2 ^ m * 2 ^ a) = (((2 ^ m - 1) * 2 ^ a : Nat) : Int) := by
  rw [← e1, Int.natCast_mul, Int.natCast_emod, Int.natCast_pow, Int.natCast_pow]; rfl
 have c2 : ((V : Int) % 2 ^ m * 2 ^ a) = ((V % 2 ^ m * 2 ^ a : Nat) : Int) := by
  rw [Int.natCast_mul, Int.natCast_emod, Int.natCast_pow, Int.natCast_pow]; rfl
 rw [c1, c2, IntKind.wrap_u64, IntKind.wrap_u64, Int.emod_eq_of_lt (by omega) (by omega), Int.emod_eq_of_lt (by omega) (by omega)]
 have hX : X < 18446744073709551616 := by omega
 have hA : X &&& (18446744073709551615 - (2 ^ m - 1) * 2 ^ a) < 18446744073709551616 := Nat.lt_of_le_of_lt Nat.and_le_left hX
 rw [u64_andNot_nat X _ hX hb1, u64_or_nat _ _ hA hb2, put_bits X a m V hX h]
 simp
end Go.Proofs.YtkkbngcgphlikaaGreatDoor
end
section
namespace Go.Proofs.YtkkbngcgphlikaaGreatDoor
open Go.RowKit
def stepN (r w : Nat) : Nat := if (r ^^^ w) % 2 = 1 then (r / 2) ^^^ 3988292384 else r / 2
def turnN : Nat → Nat → Nat → Nat
 | 0, r, _ => r
 | n + 1, r, w => turnN n (stepN r w) (w / 2)
theorem xor_lt32 {a b : Nat} (ha : a < 4294967296) (hb : b < 4294967296) : a ^^^ b < 4294967296 := Nat.xor_lt_two_pow (n := 32) ha hb
theorem stepN_lt (r w : Nat) (hr : r < 4294967296) : stepN r w < 4294967296 := by
 unfold stepN
 split
 ·exact xor_lt32 (by omega) (by omega)
 omega
theorem turnN_lt (n : Nat) : ∀ (r w : Nat), r < 4294967296 → turnN n r w < 4294967296 := by
 induction n with
 | zero => intro r w h; exact h
 | succ n ih => intro r w h; exact ih _ _ (stepN_lt r w h)
theorem turn_any (n : Nat) : ∀ (r x : Nat) (w : World) (g : Nat), n ≤ 64 → r < 4294967296 → x < 18446744073709551616 → w.cell? ⟨g, 0, none⟩ = some (.func (.func 197) #[] #[.pointer (some ⟨g, 0, none⟩)]) →
 Calls Tryz.prog 197 #[.int .u32 r, .int .u64 x, .int .i64 n, .pointer (some ⟨g, 0, none⟩)] w fun e w' => e = .returned (.int .u32 (turnN n r x : Nat)) ∧ w = w' := by
 induction n with
 | zero =>
   intro r x w g hn hr hx hg
   go_enter Tryz.func197, Tryz.ntmps197
   go_wp2_with fail
   go_ret
   exact ⟨rfl, rfl⟩
 | succ n ih =>
   intro r x w g hn hr hx hg
   have e1 : bits .xor .u64 (r : Int) (x : Int) = ((r ^^^ x : Nat) : Int) := u64_xor_nat r x (by omega) hx
   have hl := stepN_lt r x hr
   have hI := ih (stepN r x) (x / 2) w g (by omega) hl (by omega) hg
   have ht : turnN (n + 1) r x = turnN n (stepN r x) (x / 2) := rfl
   rw [ht]
   generalize turnN n (stepN r x) (x / 2) = res at hI ⊢
   clear ih ht
   rw [show ((x / 2 : Nat) : Int) = (x : Int) / 2 by omega] at hI
   have e0 : ((n + 1 : Nat) : Int) = (n : Int) + 1 := by omega
   have hq : ¬ (n : Int) + 1 = 0 := by omega
   rw [e0]
   clear e0
   have e2 : bits .and .u64 ((r ^^^ x : Nat) : Int) 1 = (((r ^^^ x) % 2 : Nat) : Int) := by
    rw [show (1 : Int) = ((1 : Nat) : Int) from rfl, u64_and_nat _ 1 (Nat.xor_lt_two_pow (n := 64) (by omega) hx) (by omega), Nat.and_one_is_mod]
   by_cases h : (r ^^^ x) % 2 = 1
   ·have hs : ((stepN r x : Nat) : Int) = bits .xor .u32 ((r : Int) / 2) 3988292384 := by
     unfold stepN
     rw [if_pos h, show (r : Int) / 2 = ((r / 2 : Nat) : Int) by omega]
     exact (u32_xor_nat (r / 2) 3988292384 (by omega) (by omega)).symm
    rw [hs] at hI
    replace hI := lh hI
    have hT : (bits .and .u64 (bits .xor .u64 (r : Int) (x : Int)) 1 == 1) = true := by rw [e1, e2, h]; rfl
    clear hs e1 e2 h hl
    go_enter Tryz.func197, Tryz.ntmps197
    go_wp2_with fail
    refine hI.out.mono ?_
    rintro e w' ⟨rfl, rfl⟩
    go_wp2_with fail
    go_ret
    exact ⟨rfl, rfl⟩
   have h0 : (r ^^^ x) % 2 = 0 := by omega
   have hs : ((stepN r x : Nat) : Int) = (r : Int) / 2 := by
    unfold stepN
    rw [if_neg h]
    omega
   rw [hs] at hI
   replace hI := lh hI
   have hT : (bits .and .u64 (bits .xor .u64 (r : Int) (x : Int)) 1 == 1) = false := by rw [e1, e2, h0]; rfl
   clear hs e1 e2 h h0 hl
   go_enter Tryz.func197, Tryz.ntmps197
   go_wp2_with fail
   refine hI.out.mono ?_
   rintro e w' ⟨rfl, rfl⟩
   go_wp2_with fail
   go_ret
   exact ⟨rfl, rfl⟩
end Go.Proofs.YtkkbngcgphlikaaGreatDoor
end
section
namespace Go.Proofs.YtkkbngcgphlikaaGreatDoor
theorem mod_step (x n : Nat) : x % 2 ^ (n + 1) = x % 2 ^ n + if x.testBit n then 2 ^ n else 0 := by
 rw [Nat.pow_succ, Nat.mod_mul, Nat.testBit_eq_decide_div_mod_eq]
 rcases Nat.mod_two_eq_zero_or_one (x / 2 ^ n) with h | h <;> simp [h]
end Go.Proofs.YtkkbngcgphlikaaGreatDoor
end
