/-
  The laws of package span: SpanParts.
-/
import Derived.Test.YthklgmpphfdfoaaSpan9
set_option linter.unusedVariables false
namespace Go.Proofs.Ythklgmpphfdfoaa
open Go.RowKit

theorem cov_parts {l : List Sp} (hl : SRight l) (x : Int) (n k : Nat) (hk : k ≤ n) : covS l (x, (n : Int)) = (covS l (x, (k : Int)) && covS l (x + k, (n : Int) - k)) := by
  rw [Bool.eq_iff_iff, Bool.and_eq_true, covS_iff hl, covS_iff hl, covS_iff hl]
  unfold SIn
  simp only []
  constructor
  · intro h
    exact ⟨fun w hw => h w (by omega), fun w hw => h w (by omega)⟩
  · rintro ⟨h1, h2⟩ w hw
    by_cases e : w < x + k
    · exact h1 w (by omega)
    · exact h2 w (by omega)
theorem cov_zero {l : List Sp} (hl : SRight l) (x : Int) : covS l (x, 0) = true := by
  rw [covS_iff hl]
  intro w hw
  unfold SIn at hw
  simp only [] at hw; omega
set_option maxHeartbeats 1000000 in
theorem spanParts_big (a0 a2 : Int) (n c : Nat) (v : Value) (l : List Nat) (w : World) (hv : KL .u8 w v l) (hbig : 24 < l.length) :
    Calls Try.prog 13 #[.int .i8 a0, v, .int .i16 a2, .int .u8 n, .int .u8 c] w fun e w' => e = .returned (.bool true) ∧ Below w.heap.size w w' := by
  obtain ⟨A, cap, rfl, _⟩ := hv.form rfl
  have hb : (24 : Int) < (l.length : Int) := by omega
  clear hv
  go_enter Try.func13, Try.ntmps13
  go_wp2_with fail
  refine (awake04 _).mono ?_
  rintro e w1 ⟨rfl, hb1⟩
  go_wp2_with fail
  go_ret
  exact ⟨rfl, hb1⟩
set_option maxRecDepth 10000 in
set_option maxHeartbeats 4000000 in
theorem spanParts (a0 a2 : Int) (n c : Nat) (v : Value) (l : List Nat) (w : World) (hl : BL l) (hv : KL .u8 w v l) (h01 : -128 ≤ a0) (h02 : a0 ≤ 127) (h21 : -32768 ≤ a2) (h22 : a2 ≤ 32767) (h3 : n ≤ 255) (h4 : c ≤ 255) :
    Calls Try.prog 13 #[.int .i8 a0, v, .int .i16 a2, .int .u8 n, .int .u8 c] w fun e w' => e = .returned (.bool true) ∧ Below w.heap.size w w' := by
  by_cases hbig : 24 < l.length
  · exact spanParts_big a0 a2 n c v l w hv hbig
  have hv' := hv
  obtain ⟨A, cap, rfl, _⟩ := hv'.form rfl
  have hln : l.length ≤ 24 := by omega
  have hb : ¬ (24 : Int) < (l.length : Int) := by omega
  obtain ⟨X, hX⟩ : ∃ X, a2.tmod 300 = X := ⟨_, rfl⟩
  have hX1 : -299 ≤ X := by rw [← hX]; exact (tmod300 a2).1
  have hX2 : X ≤ 299 := by rw [← hX]; exact (tmod300 a2).2
  obtain ⟨k, hk⟩ : ∃ k, k = c % (n + 1) := ⟨_, rfl⟩
  have hkn : k ≤ n := by rw [hk]; have := Nat.mod_lt c (show n + 1 > 0 by omega); omega
  have hmod : ((c : Int) % ((n : Int) + 1)) = (k : Int) := by rw [hk]; simp
  have hM := Lib.hid (fun w1 (hb : Below w.heap.size w w1) => made_any a0 _ l w1 (by omega) (by omega) hl (by omega) (hv.keep hb))
  have hset := madeL_right a0 l
  have hsb := madeL_sb a0 l (by omega) (by omega) (by omega)
  have hsl : (madeL a0 l).length ≤ 1000 := by rw [madeL_len]; omega
  generalize madeL a0 l = S at *
  have hC1 := fun v w hv => covers_any v S (X, (n : Int)) w hsb hsl (by unfold SB; simp only []; omega) hv
  have hC2 := fun v w hv => covers_any v S (X, (k : Int)) w hsb hsl (by unfold SB; simp only []; omega) hv
  have hC3 := fun v w hv => covers_any v S (X + k, (n : Int) - k) w hsb hsl (by unfold SB; simp only []; omega) hv
  have hC4 := fun v w hv => covers_any v S (X, 0) w hsb hsl (by unfold SB; simp only []; omega) hv
  rw [cov_parts hset X n k hkn] at hC1
  rw [cov_zero hset X] at hC4
  generalize covS S (X, (k : Int)) = c2 at *
  generalize covS S (X + k, (n : Int) - k) = c3 at *
  simp only [] at hC1 hC2 hC3 hC4
  replace hC1 := Lib.hid hC1
  replace hC2 := Lib.hid hC2
  replace hC3 := Lib.hid hC3
  replace hC4 := Lib.hid hC4
  replace hmod := Lib.hid hmod
  replace hX := Lib.hid hX
  clear hk hset hsb hsl hbig hl hv
  cases c2 <;> cases c3
  all_goals
    simp only [Bool.and_true, Bool.and_false, Bool.and_self] at hC1
    go_enter Try.func13, Try.ntmps13
    go_wp2_with fail
    refine (awake04 _).mono ?_
    rintro e w1 ⟨rfl, hb1⟩
    go_wp2_with fail
    refine (hM.out _ hb1).mono ?_
    rintro e w2 ⟨v2, rfl, ho2, hb2⟩
    have hB2 := hb1.trans (hb2.mono hb1.size)
    have hp2 := ho2.pl
    clear ho2 hb2 hb1
    go_wp2_with fail
    simp only [hmod.out, hX.out]
    refine (hC1.out _ _ hp2).mono ?_
    rintro e w3 ⟨rfl, hb3⟩
    have hB3 := hB2.trans (hb3.mono hB2.size)
    replace hp2 := hp2.keep hb3
    clear hb3 hB2
    go_wp2_with fail
    refine (hC2.out _ _ hp2).mono ?_
    rintro e w4 ⟨rfl, hb4⟩
    have hB4 := hB3.trans (hb4.mono hB3.size)
    replace hp2 := hp2.keep hb4
    clear hb4 hB3
    go_wp2_with fail
    refine (hC3.out _ _ hp2).mono ?_
    rintro e w5 ⟨rfl, hb5⟩
    have hB5 := hB4.trans (hb5.mono hB4.size)
    replace hp2 := hp2.keep hb5
    clear hb5 hB4
    go_wp2_with fail
    refine (hC4.out _ _ hp2).mono ?_
    rintro e w6 ⟨rfl, hb6⟩
    have hB6 := hB5.trans (hb6.mono hB5.size)
    replace hp2 := hp2.keep hb6
    clear hb6 hB5
    go_wp2_with fail
    go_ret
    exact ⟨rfl, hB6⟩
end Go.Proofs.Ythklgmpphfdfoaa
