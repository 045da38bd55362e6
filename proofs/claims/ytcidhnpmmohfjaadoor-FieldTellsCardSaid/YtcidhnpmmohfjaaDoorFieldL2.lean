/-
  The laws of package field: the walks (2).
-/
import Derived.Test.YtcidhnpmmohfjaaDoorFieldR
set_option linter.unusedVariables false
namespace Go.Proofs.YtcidhnpmmohfjaaDoor
open Go.RowKit

set_option maxHeartbeats 2000000 in
theorem refPut_no (x v : Nat) (a m : Int) (w : World) (hx : x < 18446744073709551616) (h : fitB a m = false) : Calls Tryd.prog 15 #[.int .u64 x, .int .i64 a, .int .i64 m, .int .u64 v] w fun e w' => e = .returned (.int .u64 x) ∧ w = w' := by
  have H := Lib.hid h
  clear h
  go_enter Tryd.func15, Tryd.ntmps15
  go_wp2_with (go_at_call 11; refine (refFits_no _ _ _ H.out).mono ?_; rintro e w' ⟨rfl, rfl⟩)
  go_loop [10, 11] (fun q k => ∃ j : Nat, j ≤ 64 ∧ k = .int .i64 j ∧ q = .int .u64 (modI x j)) (fun _ k => 65 - (intOf k).toNat)
  case atStart => exact ⟨0, by omega, rfl, by simp [modI, Nat.mod_one]⟩
  case round =>
    obtain ⟨j, hj, rfl, rfl⟩ := hrel
    by_cases hlt : (j : Int) < 64
    · have hst : modI x (j + 1) = modI x j + (if x.testBit j then powI j else 0) := pN_step _ j
      have hle : modI x j ≤ 9223372036854775807 := Int.ofNat_le.2 (pN_le _ j (by omega))
      have hge : 0 ≤ modI x j := Int.natCast_nonneg _
      have hpb := powI_bd j (by omega)
      have hpw := refPower_any j w (by omega)
      have hbx := refBit_any x j w hx (by omega)
      have HS := Lib.hid hst
      have HX := Lib.hid hbx
      have HP := Lib.hid hpw
      clear hst hbx hpw
      cases hb2 : x.testBit j
      all_goals
        rw [hb2] at HS HX
        clear hb2
        go_wp2_with (first | (go_at_call 23; refine HX.out.mono ?_; rintro e w' ⟨rfl, rfl⟩) | (go_at_call 24; refine HP.out.mono ?_; rintro e w' ⟨rfl, rfl⟩))
        go_round
        case rel => exact ⟨j + 1, by omega, by go_num, by rw [HS.out]; simp⟩
        case measure => simp [intOf]; omega
    · obtain rfl : j = 64 := by omega
      have he : modI x 64 = (x : Nat) := by unfold modI; rw [Nat.mod_eq_of_lt hx]
      have HE := Lib.hid he
      clear he
      go_wp2
      go_ret
      exact ⟨by rw [← HE.out]; rfl, rfl⟩

theorem get_nat (x a m : Nat) (w : World) (hx : x < 18446744073709551616) (h : fitB a m = true) : Calls Tryd.prog 12 #[.int .u64 x, .int .i64 a, .int .i64 m] w fun e w' => e = .returned (.int .u64 (getN x a m : Nat)) ∧ w = w' := by
  obtain ⟨h1, h2, h3, h4⟩ := fitB_t h
  exact get_yes x a m w (by omega) (by omega) h1 h2 h3 h4
theorem put_nat (x a m v : Nat) (w : World) (hx : x < 18446744073709551616) (hv : v < 18446744073709551616) (h : fitB a m = true) : Calls Tryd.prog 14 #[.int .u64 x, .int .i64 a, .int .i64 m, .int .u64 v] w fun e w' => e = .returned (.int .u64 (putN x a m v : Nat)) ∧ w = w' := by
  obtain ⟨h1, h2, h3, h4⟩ := fitB_t h
  exact put_yes x a m v w (by omega) (by omega) h1 h2 h3 h4 (by omega) (by omega)
theorem fits_nat (a m : Int) (w : World) (h : fitB a m = true) : Calls Tryd.prog 10 #[.int .i64 a, .int .i64 m] w fun e w' => e = .returned (.bool true) ∧ w = w' := by
  obtain ⟨h1, h2, h3, h4⟩ := fitB_t h
  exact fits_yes a m w h1 h2 h3 h4

set_option maxHeartbeats 1000000 in
theorem fieldTells_yes (x a m v : Nat) (w : World) (hd : Dw w) (hx : x < 18446744073709551616) (hv : v < 18446744073709551616) (h : fitB a m = true) :
    Calls Tryd.prog 3 #[.int .u64 x, .int .i64 a, .int .i64 m, .int .u64 v] w fun e w' => e = .returned (.bool true) ∧ Below w.heap.size w w' := by
  have H := Lib.hid h
  clear h
  go_enter Tryd.func3, Tryd.ntmps3
  go_wp2_with fail
  refine (awake_any _ hd).mono ?_
  rintro e w1 ⟨rfl, hb1⟩
  go_wp2_with (first | (go_at_call 10; ((with_reducible refine (fits_nat _ _ _ H.out).mono ?_); rintro e w' ⟨rfl, rfl⟩)) | (go_at_call 11; ((with_reducible refine (refFits_yes _ _ _ H.out).mono ?_); rintro e w' ⟨rfl, rfl⟩)) | (go_at_call 12; ((with_reducible refine (get_nat x a m _ hx H.out).mono ?_); rintro e w' ⟨rfl, rfl⟩)) | (go_at_call 13; ((with_reducible refine (refGet_yes x a m _ hx H.out).mono ?_); rintro e w' ⟨rfl, rfl⟩)) | (go_at_call 14; ((with_reducible refine (put_nat x a m v _ hx hv H.out).mono ?_); rintro e w' ⟨rfl, rfl⟩)) | (go_at_call 15; ((with_reducible refine (refPut_yes x a m v _ hx hv H.out).mono ?_); rintro e w' ⟨rfl, rfl⟩)))
  go_ret
  exact ⟨rfl, hb1⟩
set_option maxHeartbeats 1000000 in
theorem fieldTells_no (x v : Nat) (a m : Int) (w : World) (hd : Dw w) (hx : x < 18446744073709551616) (hv : v < 18446744073709551616) (h : fitB a m = false) :
    Calls Tryd.prog 3 #[.int .u64 x, .int .i64 a, .int .i64 m, .int .u64 v] w fun e w' => e = .returned (.bool true) ∧ Below w.heap.size w w' := by
  have H := Lib.hid h
  clear h
  go_enter Tryd.func3, Tryd.ntmps3
  go_wp2_with fail
  refine (awake_any _ hd).mono ?_
  rintro e w1 ⟨rfl, hb1⟩
  go_wp2_with (first | (go_at_call 10; ((with_reducible refine (fits_no _ _ _ H.out).mono ?_); rintro e w' ⟨rfl, rfl⟩)) | (go_at_call 11; ((with_reducible refine (refFits_no _ _ _ H.out).mono ?_); rintro e w' ⟨rfl, rfl⟩)) | (go_at_call 12; ((with_reducible refine (get_no x a m _ H.out).mono ?_); rintro e w' ⟨rfl, rfl⟩)) | (go_at_call 13; ((with_reducible refine (refGet_no x a m _ H.out).mono ?_); rintro e w' ⟨rfl, rfl⟩)) | (go_at_call 14; ((with_reducible refine (put_no x a m v _ H.out).mono ?_); rintro e w' ⟨rfl, rfl⟩)) | (go_at_call 15; ((with_reducible refine (refPut_no x v a m _ hx H.out).mono ?_); rintro e w' ⟨rfl, rfl⟩)))
  go_ret
  exact ⟨rfl, hb1⟩

end Go.Proofs.YtcidhnpmmohfjaaDoor
