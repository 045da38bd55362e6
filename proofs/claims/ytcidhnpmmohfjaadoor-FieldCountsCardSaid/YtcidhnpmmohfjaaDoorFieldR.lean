/-
  What the document's answers on a word's bits are: contracts on the calls; and package field's where the bits don't fit.
-/
import Derived.Test.YtcidhnpmmohfjaaDoorFieldL1
set_option linter.unusedVariables false
namespace Go.Proofs.YtcidhnpmmohfjaaDoor
open Go.RowKit

def fitB (a m : Int) : Bool := decide (0 ≤ a ∧ 1 ≤ m ∧ m ≤ 64 ∧ a ≤ 64 - m)
theorem fitB_t {a m : Int} (h : fitB a m = true) : 0 ≤ a ∧ 1 ≤ m ∧ m ≤ 64 ∧ a ≤ 64 - m := of_decide_eq_true h
theorem fitB_f {a m : Int} (h : fitB a m = false) : ¬ (0 ≤ a ∧ 1 ≤ m ∧ m ≤ 64 ∧ a ≤ 64 - m) := of_decide_eq_false h

set_option maxHeartbeats 400000 in
theorem fits_no (a m : Int) (w : World) (h : fitB a m = false) : Calls Tryd.prog 10 #[.int .i64 a, .int .i64 m] w fun e w' => e = .returned (.bool false) ∧ w = w' := by
  have h1 := fitB_f h
  clear h
  by_cases a1 : a < 0
  · clear h1
    go_enter Tryd.func10, Tryd.ntmps10
    go_wp2
    go_ret
    exact ⟨rfl, rfl⟩
  by_cases a2 : m < 1
  · clear h1
    by_cases a5 : 63 < a
    · go_enter Tryd.func10, Tryd.ntmps10
      go_wp2
      go_ret
      exact ⟨rfl, rfl⟩
    · go_enter Tryd.func10, Tryd.ntmps10
      go_wp2
      go_ret
      exact ⟨rfl, rfl⟩
  by_cases a3 : 64 < m
  · clear h1
    by_cases a5 : 63 < a
    · go_enter Tryd.func10, Tryd.ntmps10
      go_wp2
      go_ret
      exact ⟨ret_b (by simp <;> omega), rfl⟩
    · go_enter Tryd.func10, Tryd.ntmps10
      go_wp2
      go_ret
      exact ⟨ret_b (by simp <;> omega), rfl⟩
  have a4 : 64 - m < a := by omega
  clear h1
  by_cases a5 : 63 < a
  · go_enter Tryd.func10, Tryd.ntmps10
    go_wp2
    go_ret
    exact ⟨ret_b (by simp <;> omega), rfl⟩
  · go_enter Tryd.func10, Tryd.ntmps10
    go_wp2
    go_ret
    exact ⟨ret_b (by simp <;> omega), rfl⟩

set_option maxHeartbeats 400000 in
theorem refFits_no (a m : Int) (w : World) (h : fitB a m = false) : Calls Tryd.prog 11 #[.int .i64 a, .int .i64 m] w fun e w' => e = .returned (.bool false) ∧ w = w' := by
  have h1 := fitB_f h
  clear h
  by_cases a1 : a < 0
  · clear h1
    go_enter Tryd.func11, Tryd.ntmps11
    go_wp2
    go_ret
    exact ⟨rfl, rfl⟩
  by_cases a2 : m < 1
  · clear h1
    by_cases a5 : 63 < a
    · go_enter Tryd.func11, Tryd.ntmps11
      go_wp2
      go_ret
      exact ⟨rfl, rfl⟩
    · go_enter Tryd.func11, Tryd.ntmps11
      go_wp2
      go_ret
      exact ⟨rfl, rfl⟩
  by_cases a3 : 64 < m
  · clear h1
    by_cases a5 : 63 < a
    · go_enter Tryd.func11, Tryd.ntmps11
      go_wp2
      go_ret
      exact ⟨ret_b (by simp <;> omega), rfl⟩
    · go_enter Tryd.func11, Tryd.ntmps11
      go_wp2
      go_ret
      exact ⟨ret_b (by simp <;> omega), rfl⟩
  have a4 : 64 - m < a := by omega
  clear h1
  by_cases a5 : 63 < a
  · go_enter Tryd.func11, Tryd.ntmps11
    go_wp2
    go_ret
    exact ⟨ret_b (by simp <;> omega), rfl⟩
  · go_enter Tryd.func11, Tryd.ntmps11
    go_wp2
    go_ret
    exact ⟨ret_b (by simp <;> omega), rfl⟩

set_option maxHeartbeats 400000 in
theorem refFits_yes (a m : Int) (w : World) (h : fitB a m = true) : Calls Tryd.prog 11 #[.int .i64 a, .int .i64 m] w fun e w' => e = .returned (.bool true) ∧ w = w' := by
  obtain ⟨h1, h2, h3, h4⟩ := fitB_t h
  clear h
  go_enter Tryd.func11, Tryd.ntmps11
  go_wp2
  go_ret
  exact ⟨ret_b (by simp <;> omega), rfl⟩
theorem get_no (x a m : Int) (w : World) (h : fitB a m = false) : Calls Tryd.prog 12 #[.int .u64 x, .int .i64 a, .int .i64 m] w fun e w' => e = .returned (.int .u64 0) ∧ w = w' := by
  have H := Lib.hid h
  clear h
  go_enter Tryd.func12, Tryd.ntmps12
  go_wp2_with (go_at_call 10; refine (fits_no _ _ _ H.out).mono ?_; rintro e w' ⟨rfl, rfl⟩)
  go_ret
  exact ⟨rfl, rfl⟩
theorem put_no (x a m v : Int) (w : World) (h : fitB a m = false) : Calls Tryd.prog 14 #[.int .u64 x, .int .i64 a, .int .i64 m, .int .u64 v] w fun e w' => e = .returned (.int .u64 x) ∧ w = w' := by
  have H := Lib.hid h
  clear h
  go_enter Tryd.func14, Tryd.ntmps14
  go_wp2_with (go_at_call 10; refine (fits_no _ _ _ H.out).mono ?_; rintro e w' ⟨rfl, rfl⟩)
  go_ret
  exact ⟨rfl, rfl⟩

set_option maxHeartbeats 400000 in
theorem refBit_any (x i : Nat) (w : World) (hx : x < 18446744073709551616) (hi : i ≤ 64) : Calls Tryd.prog 23 #[.int .u64 x, .int .i64 i] w fun e w' => e = .returned (.bool (x.testBit i)) ∧ w = w' := by
  go_enter Tryd.func23, Tryd.ntmps23
  go_wp2
  go_loop [0, 5] (fun v k => ∃ j : Nat, j ≤ i ∧ k = .int .i64 j ∧ v = .int .u64 ((x / 2 ^ j : Nat) : Int)) (fun _ k => 65 - (intOf k).toNat)
  case atStart => exact ⟨0, by omega, rfl, by simp⟩
  case round =>
    obtain ⟨j, hj, rfl, rfl⟩ := hrel
    have hle : x / 2 ^ j ≤ x := Nat.div_le_self _ _
    have hds : x / 2 ^ j / 2 = x / 2 ^ (j + 1) := by rw [Nat.pow_succ, Nat.div_div_eq_div_mul]
    have htb := Nat.testBit_eq_decide_div_mod_eq (x := x) (i := j)
    generalize hy : x / 2 ^ j = y at *
    have HD := Lib.hid hds
    have HT := Lib.hid htb
    clear hds htb hy
    by_cases hlt : (j : Int) < i
    · go_wp2
      go_round
      case rel => exact ⟨j + 1, by omega, by go_num, by rw [← HD.out]; go_num⟩
      case measure => simp [intOf]; omega
    · obtain rfl : j = i := by omega
      go_wp2
      go_ret
      refine ⟨ret_b ?_, rfl⟩
      rw [HT.out, Bool.eq_iff_iff]
      simp only [beq_iff_eq, decide_eq_true_eq]
      omega

def powI (i : Nat) : Int := ((2 ^ i : Nat) : Int)
set_option maxHeartbeats 400000 in
theorem refPower_any (i : Nat) (w : World) (hi : i < 64) : Calls Tryd.prog 24 #[.int .i64 i] w fun e w' => e = .returned (.int .u64 (powI i)) ∧ w = w' := by
  go_enter Tryd.func24, Tryd.ntmps24
  go_wp2
  go_loop [3, 4] (fun v k => ∃ j : Nat, j ≤ i ∧ k = .int .i64 j ∧ v = .int .u64 ((2 ^ j : Nat) : Int)) (fun _ k => 65 - (intOf k).toNat)
  case atStart => exact ⟨0, by omega, rfl, by simp⟩
  case round =>
    obtain ⟨j, hj, rfl, rfl⟩ := hrel
    have hp := pow_lt64 (k := j) (by omega)
    have hps : 2 * 2 ^ j = 2 ^ (j + 1) := by rw [Nat.pow_succ, Nat.mul_comm]
    by_cases hlt : (j : Int) < i
    · have hp2 := pow_lt64 (k := j + 1) (by omega)
      rw [← hps] at hp2
      generalize hy : 2 ^ j = y at *
      have HD := Lib.hid hps
      clear hps hy
      go_wp2
      go_round
      case rel => exact ⟨j + 1, by omega, by go_num, by rw [← HD.out]; go_num⟩
      case measure => simp [intOf]; omega
    · obtain rfl : j = i := by omega
      clear hps hp
      have HP : Hid (powI j = ((2 ^ j : Nat) : Int)) := rfl
      generalize 2 ^ j = y at *
      go_wp2
      go_ret
      exact ⟨by rw [HP.out]; rfl, rfl⟩

def bitI (b : Bool) (i : Nat) : Int := if b then powI i else 0
theorem getN_step (x a j : Nat) : ((getN x a (j + 1) : Nat) : Int) = (getN x a j : Nat) + (if x.testBit (a + j) then powI j else 0) := by
  unfold getN powI
  rw [mod_step, Nat.testBit_div_two_pow, Nat.add_comm j a]
  cases x.testBit (a + j) <;> simp
theorem getN_le (x a j : Nat) (hj : j < 64) : getN x a j ≤ 9223372036854775807 := by
  have := getN_lt x a j
  have := pow_lt64 hj
  omega
theorem powI_bd (j : Nat) (hj : j < 64) : 0 ≤ powI j ∧ powI j ≤ 9223372036854775808 := by
  have := pow_lt64 hj
  unfold powI
  exact ⟨Int.natCast_nonneg _, Int.ofNat_le.2 this⟩

set_option maxHeartbeats 1000000 in
theorem refGet_yes (x a m : Nat) (w : World) (hx : x < 18446744073709551616) (h : fitB a m = true) : Calls Tryd.prog 13 #[.int .u64 x, .int .i64 a, .int .i64 m] w fun e w' => e = .returned (.int .u64 (getN x a m : Nat)) ∧ w = w' := by
  obtain ⟨h1, h2, h3, h4⟩ := fitB_t h
  have H := Lib.hid h
  clear h
  go_enter Tryd.func13, Tryd.ntmps13
  go_wp2_with (go_at_call 11; refine (refFits_yes _ _ _ H.out).mono ?_; rintro e w' ⟨rfl, rfl⟩)
  go_loop [8, 9] (fun v k => ∃ j : Nat, j ≤ m ∧ k = .int .i64 j ∧ v = .int .u64 ((getN x a j : Nat) : Int)) (fun _ k => 65 - (intOf k).toNat)
  case atStart => exact ⟨0, by omega, rfl, by simp [getN, Nat.mod_one]⟩
  case round =>
    obtain ⟨j, hj, rfl, rfl⟩ := hrel
    by_cases hlt : (j : Int) < m
    · have hst := getN_step x a j
      have hle := getN_le x a j (by omega)
      have hpb := powI_bd j (by omega)
      have hbt := refBit_any x (a + j) w hx (by omega)
      have hpw := refPower_any j w (by omega)
      generalize getN x a j = y at *
      have HS := Lib.hid hst
      have HB := Lib.hid hbt
      have HP := Lib.hid hpw
      clear hst hbt hpw
      cases hb : x.testBit (a + j)
      · rw [hb] at HS HB
        clear hb
        go_wp2_with (go_at_call 23; refine HB.out.mono ?_; rintro e w' ⟨rfl, rfl⟩)
        go_round
        case rel => exact ⟨j + 1, by omega, by go_num, by rw [HS.out]; simp⟩
        case measure => simp [intOf]; omega
      · rw [hb] at HS HB
        clear hb
        go_wp2_with (first | (go_at_call 23; refine HB.out.mono ?_; rintro e w' ⟨rfl, rfl⟩) | (go_at_call 24; refine HP.out.mono ?_; rintro e w' ⟨rfl, rfl⟩))
        go_round
        case rel => exact ⟨j + 1, by omega, by go_num, by rw [HS.out]; simp⟩
        case measure => simp [intOf]; omega
    · obtain rfl : j = m := by omega
      go_wp2
      go_ret
      exact ⟨rfl, rfl⟩
/-- what is put, bit by bit -/
def pN (fits : Bool) (x a m v : Nat) : Nat := if fits then putN x a m v else x
theorem pN_step (y j : Nat) : ((y % 2 ^ (j + 1) : Nat) : Int) = (y % 2 ^ j : Nat) + (if y.testBit j then powI j else 0) := by
  unfold powI
  rw [mod_step]
  cases y.testBit j <;> simp
theorem pN_le (y j : Nat) (hj : j < 64) : y % 2 ^ j ≤ 9223372036854775807 := by
  have := Nat.mod_lt y (Nat.pow_pos (n := j) (a := 2) (by omega))
  have := pow_lt64 hj
  omega
def modI (y j : Nat) : Int := ((y % 2 ^ j : Nat) : Int)

set_option maxHeartbeats 2000000 in
theorem refPut_yes (x a m v : Nat) (w : World) (hx : x < 18446744073709551616) (hv : v < 18446744073709551616) (h : fitB a m = true) : Calls Tryd.prog 15 #[.int .u64 x, .int .i64 a, .int .i64 m, .int .u64 v] w fun e w' => e = .returned (.int .u64 (putN x a m v : Nat)) ∧ w = w' := by
  obtain ⟨h1, h2, h3, h4⟩ := fitB_t h
  have H := Lib.hid h
  clear h
  go_enter Tryd.func15, Tryd.ntmps15
  go_wp2_with (go_at_call 11; refine (refFits_yes _ _ _ H.out).mono ?_; rintro e w' ⟨rfl, rfl⟩)
  go_loop [10, 11] (fun q k => ∃ j : Nat, j ≤ 64 ∧ k = .int .i64 j ∧ q = .int .u64 (modI (putN x a m v) j)) (fun _ k => 65 - (intOf k).toNat)
  case atStart => exact ⟨0, by omega, rfl, by simp [modI, Nat.mod_one]⟩
  case round =>
    obtain ⟨j, hj, rfl, rfl⟩ := hrel
    by_cases hlt : (j : Int) < 64
    · have hst : modI (putN x a m v) (j + 1) = modI (putN x a m v) j + (if (putN x a m v).testBit j then powI j else 0) := pN_step _ j
      have hle : modI (putN x a m v) j ≤ 9223372036854775807 := Int.ofNat_le.2 (pN_le _ j (by omega))
      have hge : 0 ≤ modI (putN x a m v) j := Int.natCast_nonneg _
      have hpb := powI_bd j (by omega)
      have hpw := refPower_any j w (by omega)
      have hbx := refBit_any x j w hx (by omega)
      have hsub : a ≤ j → ((j - a : Nat) : Int) = (j : Int) - a := fun h => by omega
      have hbv := refBit_any v (j - a) w hv (by omega)
      have htb := putN_testBit x a m v j
      have HS := Lib.hid hst
      have HX := Lib.hid hbx
      have HV := Lib.hid hbv
      have HP := Lib.hid hpw
      clear hst hbx hbv hpw
      by_cases hin : a ≤ j ∧ j < a + m
      · obtain ⟨i1, i2⟩ := hin
        rw [if_pos ⟨i1, i2⟩] at htb
        rw [htb] at HS
        clear htb
        have i3 : (a : Int) ≤ j := by omega
        have i4 : (j : Int) < a + m := by omega
        rw [hsub i1] at HV
        clear hsub
        cases hb : v.testBit (j - a)
        · rw [hb] at HS HV
          clear hb
          cases hb2 : x.testBit j
          all_goals
            rw [hb2] at HX
            clear hb2
            go_wp2_with (first | (go_at_call 23; ((with_reducible refine HX.out.mono ?_); rintro e w' ⟨rfl, rfl⟩)) | (go_at_call 23; ((with_reducible refine HV.out.mono ?_); rintro e w' ⟨rfl, rfl⟩)))
            go_round
            case rel => exact ⟨j + 1, by omega, by go_num, by rw [HS.out]; simp⟩
            case measure => simp [intOf]; omega
        · rw [hb] at HS HV
          clear hb
          cases hb2 : x.testBit j
          all_goals
            rw [hb2] at HX
            clear hb2
            go_wp2_with (first | (go_at_call 23; ((with_reducible refine HX.out.mono ?_); rintro e w' ⟨rfl, rfl⟩)) | (go_at_call 23; ((with_reducible refine HV.out.mono ?_); rintro e w' ⟨rfl, rfl⟩)) | (go_at_call 24; refine HP.out.mono ?_; rintro e w' ⟨rfl, rfl⟩))
            go_round
            case rel => exact ⟨j + 1, by omega, by go_num, by rw [HS.out]; simp⟩
            case measure => simp [intOf]; omega
      · rw [if_neg hin] at htb
        rw [htb] at HS
        clear htb hsub HV
        by_cases i3 : (a : Int) ≤ j
        all_goals
          have i4 : (a : Int) ≤ j → (a : Int) + m ≤ j := by omega
          cases hb2 : x.testBit j
          all_goals
            rw [hb2] at HS HX
            clear hb2
            first
              | (have i5 := i4 i3
                 clear i4 hin
                 go_wp2_with (first | (go_at_call 23; refine HX.out.mono ?_; rintro e w' ⟨rfl, rfl⟩) | (go_at_call 24; refine HP.out.mono ?_; rintro e w' ⟨rfl, rfl⟩))
                 go_round
                 case rel => exact ⟨j + 1, by omega, by go_num, by rw [HS.out]; simp⟩
                 case measure => simp [intOf]; omega)
              | (have i5 : (j : Int) < a := by omega
                 clear i4 hin i3
                 go_wp2_with (first | (go_at_call 23; refine HX.out.mono ?_; rintro e w' ⟨rfl, rfl⟩) | (go_at_call 24; refine HP.out.mono ?_; rintro e w' ⟨rfl, rfl⟩))
                 go_round
                 case rel => exact ⟨j + 1, by omega, by go_num, by rw [HS.out]; simp⟩
                 case measure => simp [intOf]; omega)
    · obtain rfl : j = 64 := by omega
      have hp := putN_lt x a m v hx (by omega)
      have he : modI (putN x a m v) 64 = (putN x a m v : Nat) := by unfold modI; rw [Nat.mod_eq_of_lt hp]
      have HE := Lib.hid he
      clear he hp
      go_wp2
      go_ret
      exact ⟨by rw [← HE.out]; rfl, rfl⟩
set_option maxHeartbeats 1000000 in
theorem refGet_no (x : Nat) (a m : Int) (w : World) (h : fitB a m = false) : Calls Tryd.prog 13 #[.int .u64 x, .int .i64 a, .int .i64 m] w fun e w' => e = .returned (.int .u64 0) ∧ w = w' := by
  have H := Lib.hid h
  clear h
  go_enter Tryd.func13, Tryd.ntmps13
  go_wp2_with (go_at_call 11; refine (refFits_no _ _ _ H.out).mono ?_; rintro e w' ⟨rfl, rfl⟩)
  refine wp_loop_rounds 1 ?_
  rw [rounds_succ]
  go_wp2
  go_ret
  exact ⟨rfl, rfl⟩
end Go.Proofs.YtcidhnpmmohfjaaDoor
