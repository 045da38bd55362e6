/-
  What the calls of package class answer (2).
-/
import Derived.Test.YtalplklaepbaeaaDoorClass1
set_option linter.unusedVariables false
namespace Go.Proofs.YtalplklaepbaeaaDoor
open Go.RowKit

set_option maxHeartbeats 800000 in
theorem chk_0 (s : Int) (w : World) (ht : Tab w) (h1 : 0 ≤ s) (h2 : s ≤ 2) : Calls Tryd.prog 13 #[.int .i64 s] w fun e w' => e = .returned (.int .i64 0) ∧ w = w' := by
  go_enter Tryd.func13, Tryd.ntmps13
  go_wp2_with (first | (go_at_call 9; ((with_reducible refine (rgt_t s _ (by omega) (by omega)).mono ?_); rintro e w' ⟨rfl, rfl⟩)) | (go_at_call 11; ((with_reducible refine (of_0 s _ ht h1 h2).mono ?_); rintro e w' ⟨rfl, rfl⟩)) | (go_at_call 21; ((with_reducible refine (taken_any s _ (by omega) (by omega)).mono ?_); rintro e w' ⟨rfl, rfl⟩)))
  go_ret
  exact ⟨rfl, rfl⟩

set_option maxHeartbeats 800000 in
theorem chk_1 (s : Int) (w : World) (ht : Tab w) (h1 : 3 ≤ s) (h2 : s ≤ 6) : Calls Tryd.prog 13 #[.int .i64 s] w fun e w' => e = .returned (.int .i64 0) ∧ w = w' := by
  go_enter Tryd.func13, Tryd.ntmps13
  go_wp2_with (first | (go_at_call 9; ((with_reducible refine (rgt_t s _ (by omega) (by omega)).mono ?_); rintro e w' ⟨rfl, rfl⟩)) | (go_at_call 11; ((with_reducible refine (of_1 s _ ht h1 h2).mono ?_); rintro e w' ⟨rfl, rfl⟩)) | (go_at_call 21; ((with_reducible refine (taken_any s _ (by omega) (by omega)).mono ?_); rintro e w' ⟨rfl, rfl⟩)))
  go_ret
  exact ⟨rfl, rfl⟩

set_option maxHeartbeats 800000 in
theorem chk_2 (s : Int) (w : World) (ht : Tab w) (h1 : 7 ≤ s) (h2 : s ≤ 14) : Calls Tryd.prog 13 #[.int .i64 s] w fun e w' => e = .returned (.int .i64 0) ∧ w = w' := by
  go_enter Tryd.func13, Tryd.ntmps13
  go_wp2_with (first | (go_at_call 9; ((with_reducible refine (rgt_t s _ (by omega) (by omega)).mono ?_); rintro e w' ⟨rfl, rfl⟩)) | (go_at_call 11; ((with_reducible refine (of_2 s _ ht h1 h2).mono ?_); rintro e w' ⟨rfl, rfl⟩)) | (go_at_call 21; ((with_reducible refine (taken_any s _ (by omega) (by omega)).mono ?_); rintro e w' ⟨rfl, rfl⟩)))
  go_ret
  exact ⟨rfl, rfl⟩

set_option maxHeartbeats 800000 in
theorem chk_3 (s : Int) (w : World) (ht : Tab w) (h1 : 15 ≤ s) (h2 : s ≤ 4096) : Calls Tryd.prog 13 #[.int .i64 s] w fun e w' => e = .returned (.int .i64 ((s + 33) / 32)) ∧ w = w' := by
  go_enter Tryd.func13, Tryd.ntmps13
  go_wp2_with (first | (go_at_call 9; ((with_reducible refine (rgt_t s _ (by omega) (by omega)).mono ?_); rintro e w' ⟨rfl, rfl⟩)) | (go_at_call 11; ((with_reducible refine (of_3 s _ ht h1 h2).mono ?_); rintro e w' ⟨rfl, rfl⟩)) | (go_at_call 21; ((with_reducible refine (taken_any s _ (by omega) (by omega)).mono ?_); rintro e w' ⟨rfl, rfl⟩)))
  go_ret
  exact ⟨ret_i (by omega), rfl⟩

set_option maxHeartbeats 800000 in
theorem chk_4 (s : Int) (w : World) (ht : Tab w) (h1 : 4097 ≤ s) : Calls Tryd.prog 13 #[.int .i64 s] w fun e w' => e = .returned (.int .i64 0) ∧ w = w' := by
  go_enter Tryd.func13, Tryd.ntmps13
  go_wp2_with (first | (go_at_call 9; ((with_reducible refine (rgt_f s _ (by omega)).mono ?_); rintro e w' ⟨rfl, rfl⟩)) | (go_at_call 11; ((with_reducible refine (of_4 s _ ht h1).mono ?_); rintro e w' ⟨rfl, rfl⟩)) | (go_at_call 21; ((with_reducible refine (taken_any s _ (by omega) (by omega)).mono ?_); rintro e w' ⟨rfl, rfl⟩)))
  go_ret
  exact ⟨rfl, rfl⟩

set_option maxHeartbeats 800000 in
theorem chk_5 (s : Int) (w : World) (ht : Tab w) (h1 : s ≤ -1) : Calls Tryd.prog 13 #[.int .i64 s] w fun e w' => e = .returned (.int .i64 0) ∧ w = w' := by
  go_enter Tryd.func13, Tryd.ntmps13
  go_wp2_with (first | (go_at_call 9; ((with_reducible refine (rgt_f s _ (by omega)).mono ?_); rintro e w' ⟨rfl, rfl⟩)) | (go_at_call 11; ((with_reducible refine (of_5 s _ ht h1).mono ?_); rintro e w' ⟨rfl, rfl⟩)) | (go_at_call 21; ((with_reducible refine (taken_any s _ (by omega) (by omega)).mono ?_); rintro e w' ⟨rfl, rfl⟩)))
  go_ret
  exact ⟨rfl, rfl⟩

set_option maxHeartbeats 800000 in
theorem refChk_0 (s : Int) (w : World) (h1 : 0 ≤ s) (h2 : s ≤ 2) : Calls Tryd.prog 14 #[.int .i64 s] w fun e w' => e = .returned (.int .i64 0) ∧ w = w' := by
  go_enter Tryd.func14, Tryd.ntmps14
  go_wp2_with (first | (go_at_call 10; ((with_reducible refine (refRgt_t s _ (by omega) (by omega)).mono ?_); rintro e w' ⟨rfl, rfl⟩)) | (go_at_call 12; ((with_reducible refine (refOf_0 s _ h1 h2).mono ?_); rintro e w' ⟨rfl, rfl⟩)))
  refine wp_loop_rounds 1 ?_
  rw [rounds_succ]
  go_wp2_with (go_at_call 12; ((with_reducible refine (refOf_0 s _ h1 h2).mono ?_); rintro e w' ⟨rfl, rfl⟩))
  go_ret
  exact ⟨rfl, rfl⟩

set_option maxHeartbeats 800000 in
theorem refChk_1 (s : Int) (w : World) (h1 : 3 ≤ s) (h2 : s ≤ 6) : Calls Tryd.prog 14 #[.int .i64 s] w fun e w' => e = .returned (.int .i64 0) ∧ w = w' := by
  go_enter Tryd.func14, Tryd.ntmps14
  go_wp2_with (first | (go_at_call 10; ((with_reducible refine (refRgt_t s _ (by omega) (by omega)).mono ?_); rintro e w' ⟨rfl, rfl⟩)) | (go_at_call 12; ((with_reducible refine (refOf_1 s _ h1 h2).mono ?_); rintro e w' ⟨rfl, rfl⟩)))
  refine wp_loop_rounds 1 ?_
  rw [rounds_succ]
  go_wp2_with (go_at_call 12; ((with_reducible refine (refOf_1 s _ h1 h2).mono ?_); rintro e w' ⟨rfl, rfl⟩))
  go_ret
  exact ⟨rfl, rfl⟩

set_option maxHeartbeats 800000 in
theorem refChk_2 (s : Int) (w : World) (h1 : 7 ≤ s) (h2 : s ≤ 14) : Calls Tryd.prog 14 #[.int .i64 s] w fun e w' => e = .returned (.int .i64 0) ∧ w = w' := by
  go_enter Tryd.func14, Tryd.ntmps14
  go_wp2_with (first | (go_at_call 10; ((with_reducible refine (refRgt_t s _ (by omega) (by omega)).mono ?_); rintro e w' ⟨rfl, rfl⟩)) | (go_at_call 12; ((with_reducible refine (refOf_2 s _ h1 h2).mono ?_); rintro e w' ⟨rfl, rfl⟩)))
  refine wp_loop_rounds 1 ?_
  rw [rounds_succ]
  go_wp2_with (go_at_call 12; ((with_reducible refine (refOf_2 s _ h1 h2).mono ?_); rintro e w' ⟨rfl, rfl⟩))
  go_ret
  exact ⟨rfl, rfl⟩

set_option maxHeartbeats 800000 in
theorem refChk_3 (s : Int) (w : World) (h1 : 15 ≤ s) (h2 : s ≤ 4096) : Calls Tryd.prog 14 #[.int .i64 s] w fun e w' => e = .returned (.int .i64 ((s + 33) / 32)) ∧ w = w' := by
  go_enter Tryd.func14, Tryd.ntmps14
  go_wp2_with (first | (go_at_call 10; ((with_reducible refine (refRgt_t s _ (by omega) (by omega)).mono ?_); rintro e w' ⟨rfl, rfl⟩)) | (go_at_call 12; ((with_reducible refine (refOf_3 s _ h1 h2).mono ?_); rintro e w' ⟨rfl, rfl⟩)))
  go_loop [4] (fun n => ∃ k : Nat, n = .int .i64 k ∧ (k = 0 ∨ 32 * ((k : Int) - 1) < s + 2)) (fun n => 200 - (intOf n).toNat)
  case atStart => exact ⟨0, rfl, .inl rfl⟩
  case round =>
    obtain ⟨k, rfl, hk⟩ := hrel
    have hk2 : (k : Int) ≤ 190 := by omega
    by_cases hlt : 32 * (k : Int) < s + 2
    · clear hk
      go_wp2_with (go_at_call 12; ((with_reducible refine (refOf_3 s _ h1 h2).mono ?_); rintro e w' ⟨rfl, rfl⟩))
      go_round
      case rel => exact ⟨k + 1, by go_num, .inr (by omega)⟩
      case measure => simp [intOf]; omega
    · have Hk := Lib.hid hk
      clear hk
      go_wp2_with (go_at_call 12; ((with_reducible refine (refOf_3 s _ h1 h2).mono ?_); rintro e w' ⟨rfl, rfl⟩))
      go_ret
      have hk := Hk.out
      exact ⟨ret_i (by omega), rfl⟩

set_option maxHeartbeats 800000 in
theorem refChk_4 (s : Int) (w : World) (h1 : 4097 ≤ s) : Calls Tryd.prog 14 #[.int .i64 s] w fun e w' => e = .returned (.int .i64 0) ∧ w = w' := by
  go_enter Tryd.func14, Tryd.ntmps14
  go_wp2_with (first | (go_at_call 10; ((with_reducible refine (refRgt_f s _ (by omega)).mono ?_); rintro e w' ⟨rfl, rfl⟩)) | (go_at_call 12; ((with_reducible refine (refOf_4 s _ h1).mono ?_); rintro e w' ⟨rfl, rfl⟩)))
  refine wp_loop_rounds 1 ?_
  rw [rounds_succ]
  go_wp2_with (go_at_call 12; ((with_reducible refine (refOf_4 s _ h1).mono ?_); rintro e w' ⟨rfl, rfl⟩))
  go_ret
  exact ⟨rfl, rfl⟩

set_option maxHeartbeats 800000 in
theorem refChk_5 (s : Int) (w : World) (h1 : s ≤ -1) : Calls Tryd.prog 14 #[.int .i64 s] w fun e w' => e = .returned (.int .i64 0) ∧ w = w' := by
  go_enter Tryd.func14, Tryd.ntmps14
  go_wp2_with (first | (go_at_call 10; ((with_reducible refine (refRgt_f s _ (by omega)).mono ?_); rintro e w' ⟨rfl, rfl⟩)) | (go_at_call 12; ((with_reducible refine (refOf_5 s _ h1).mono ?_); rintro e w' ⟨rfl, rfl⟩)))
  refine wp_loop_rounds 1 ?_
  rw [rounds_succ]
  go_wp2_with (go_at_call 12; ((with_reducible refine (refOf_5 s _ h1).mono ?_); rintro e w' ⟨rfl, rfl⟩))
  go_ret
  exact ⟨rfl, rfl⟩

theorem chk_any (s : Int) (w : World) (ht : Tab w) : Calls Tryd.prog 13 #[.int .i64 s] w fun e w' => e = .returned (.int .i64 (chkI s)) ∧ w = w' := by
  by_cases a4 : 15 ≤ s ∧ s ≤ 4096
  · rw [show chkI s = (s + 33) / 32 by simp [chkI, a4]]; exact chk_3 s w ht a4.1 a4.2
  rw [show chkI s = 0 by simp only [chkI, a4, if_false]]
  by_cases a1 : s < 0
  · exact chk_5 s w ht (by omega)
  by_cases a2 : s ≤ 2
  · exact chk_0 s w ht (by omega) a2
  by_cases a3 : s ≤ 6
  · exact chk_1 s w ht (by omega) a3
  by_cases a5 : s ≤ 14
  · exact chk_2 s w ht (by omega) a5
  · exact chk_4 s w ht (by omega)

theorem refChk_any (s : Int) (w : World) : Calls Tryd.prog 14 #[.int .i64 s] w fun e w' => e = .returned (.int .i64 (chkI s)) ∧ w = w' := by
  by_cases a4 : 15 ≤ s ∧ s ≤ 4096
  · rw [show chkI s = (s + 33) / 32 by simp [chkI, a4]]; exact refChk_3 s w a4.1 a4.2
  rw [show chkI s = 0 by simp only [chkI, a4, if_false]]
  by_cases a1 : s < 0
  · exact refChk_5 s w (by omega)
  by_cases a2 : s ≤ 2
  · exact refChk_0 s w (by omega) a2
  by_cases a3 : s ≤ 6
  · exact refChk_1 s w (by omega) a3
  by_cases a5 : s ≤ 14
  · exact refChk_2 s w (by omega) a5
  · exact refChk_4 s w (by omega)

set_option maxHeartbeats 800000 in
theorem rom_0 (s : Int) (w : World) (ht : Tab w) (h1 : 0 ≤ s) (h2 : s ≤ 2) : Calls Tryd.prog 15 #[.int .i64 s] w fun e w' => e = .returned (.int .i64 4) ∧ w = w' := by
  go_enter Tryd.func15, Tryd.ntmps15
  go_wp2_with (first | (go_at_call 11; ((with_reducible refine (of_0 s _ ht h1 h2).mono ?_); rintro e w' ⟨rfl, rfl⟩)) | (go_at_call 13; ((with_reducible refine (chk_0 s _ ht h1 h2).mono ?_); rintro e w' ⟨rfl, rfl⟩)) | (go_at_call 17; ((with_reducible refine (blk_0 0 _ ht rfl).mono ?_); rintro e w' ⟨rfl, rfl⟩)))
  go_ret
  exact ⟨rfl, rfl⟩

set_option maxHeartbeats 800000 in
theorem refRom_0 (s : Int) (w : World) (h1 : 0 ≤ s) (h2 : s ≤ 2) : Calls Tryd.prog 16 #[.int .i64 s] w fun e w' => e = .returned (.int .i64 4) ∧ w = w' := by
  go_enter Tryd.func16, Tryd.ntmps16
  go_wp2_with (first | (go_at_call 12; ((with_reducible refine (refOf_0 s _ h1 h2).mono ?_); rintro e w' ⟨rfl, rfl⟩)) | (go_at_call 14; ((with_reducible refine (refChk_0 s _ h1 h2).mono ?_); rintro e w' ⟨rfl, rfl⟩)) | (go_at_call 18; ((with_reducible refine (refBlk_0 0 _ rfl).mono ?_); rintro e w' ⟨rfl, rfl⟩)))
  go_ret
  exact ⟨rfl, rfl⟩

set_option maxHeartbeats 800000 in
theorem rom_1 (s : Int) (w : World) (ht : Tab w) (h1 : 3 ≤ s) (h2 : s ≤ 6) : Calls Tryd.prog 15 #[.int .i64 s] w fun e w' => e = .returned (.int .i64 8) ∧ w = w' := by
  go_enter Tryd.func15, Tryd.ntmps15
  go_wp2_with (first | (go_at_call 11; ((with_reducible refine (of_1 s _ ht h1 h2).mono ?_); rintro e w' ⟨rfl, rfl⟩)) | (go_at_call 13; ((with_reducible refine (chk_1 s _ ht h1 h2).mono ?_); rintro e w' ⟨rfl, rfl⟩)) | (go_at_call 17; ((with_reducible refine (blk_1 1 _ ht rfl).mono ?_); rintro e w' ⟨rfl, rfl⟩)))
  go_ret
  exact ⟨rfl, rfl⟩

set_option maxHeartbeats 800000 in
theorem refRom_1 (s : Int) (w : World) (h1 : 3 ≤ s) (h2 : s ≤ 6) : Calls Tryd.prog 16 #[.int .i64 s] w fun e w' => e = .returned (.int .i64 8) ∧ w = w' := by
  go_enter Tryd.func16, Tryd.ntmps16
  go_wp2_with (first | (go_at_call 12; ((with_reducible refine (refOf_1 s _ h1 h2).mono ?_); rintro e w' ⟨rfl, rfl⟩)) | (go_at_call 14; ((with_reducible refine (refChk_1 s _ h1 h2).mono ?_); rintro e w' ⟨rfl, rfl⟩)) | (go_at_call 18; ((with_reducible refine (refBlk_1 1 _ rfl).mono ?_); rintro e w' ⟨rfl, rfl⟩)))
  go_ret
  exact ⟨rfl, rfl⟩

set_option maxHeartbeats 800000 in
theorem rom_2 (s : Int) (w : World) (ht : Tab w) (h1 : 7 ≤ s) (h2 : s ≤ 14) : Calls Tryd.prog 15 #[.int .i64 s] w fun e w' => e = .returned (.int .i64 16) ∧ w = w' := by
  go_enter Tryd.func15, Tryd.ntmps15
  go_wp2_with (first | (go_at_call 11; ((with_reducible refine (of_2 s _ ht h1 h2).mono ?_); rintro e w' ⟨rfl, rfl⟩)) | (go_at_call 13; ((with_reducible refine (chk_2 s _ ht h1 h2).mono ?_); rintro e w' ⟨rfl, rfl⟩)) | (go_at_call 17; ((with_reducible refine (blk_2 2 _ ht rfl).mono ?_); rintro e w' ⟨rfl, rfl⟩)))
  go_ret
  exact ⟨rfl, rfl⟩

set_option maxHeartbeats 800000 in
theorem refRom_2 (s : Int) (w : World) (h1 : 7 ≤ s) (h2 : s ≤ 14) : Calls Tryd.prog 16 #[.int .i64 s] w fun e w' => e = .returned (.int .i64 16) ∧ w = w' := by
  go_enter Tryd.func16, Tryd.ntmps16
  go_wp2_with (first | (go_at_call 12; ((with_reducible refine (refOf_2 s _ h1 h2).mono ?_); rintro e w' ⟨rfl, rfl⟩)) | (go_at_call 14; ((with_reducible refine (refChk_2 s _ h1 h2).mono ?_); rintro e w' ⟨rfl, rfl⟩)) | (go_at_call 18; ((with_reducible refine (refBlk_2 2 _ rfl).mono ?_); rintro e w' ⟨rfl, rfl⟩)))
  go_ret
  exact ⟨rfl, rfl⟩

set_option maxHeartbeats 800000 in
theorem rom_3 (s : Int) (w : World) (ht : Tab w) (h1 : 15 ≤ s) (h2 : s ≤ 4096) : Calls Tryd.prog 15 #[.int .i64 s] w fun e w' => e = .returned (.int .i64 ((s + 33) / 32 * 32)) ∧ w = w' := by
  go_enter Tryd.func15, Tryd.ntmps15
  go_wp2_with (first | (go_at_call 11; ((with_reducible refine (of_3 s _ ht h1 h2).mono ?_); rintro e w' ⟨rfl, rfl⟩)) | (go_at_call 13; ((with_reducible refine (chk_3 s _ ht h1 h2).mono ?_); rintro e w' ⟨rfl, rfl⟩)))
  go_ret
  exact ⟨rfl, rfl⟩

set_option maxHeartbeats 800000 in
theorem refRom_3 (s : Int) (w : World) (h1 : 15 ≤ s) (h2 : s ≤ 4096) : Calls Tryd.prog 16 #[.int .i64 s] w fun e w' => e = .returned (.int .i64 ((s + 33) / 32 * 32)) ∧ w = w' := by
  go_enter Tryd.func16, Tryd.ntmps16
  go_wp2_with (first | (go_at_call 12; ((with_reducible refine (refOf_3 s _ h1 h2).mono ?_); rintro e w' ⟨rfl, rfl⟩)) | (go_at_call 14; ((with_reducible refine (refChk_3 s _ h1 h2).mono ?_); rintro e w' ⟨rfl, rfl⟩)))
  go_ret
  exact ⟨ret_i (by omega), rfl⟩

set_option maxHeartbeats 800000 in
theorem rom_4 (s : Int) (w : World) (ht : Tab w) (h1 : 4097 ≤ s) : Calls Tryd.prog 15 #[.int .i64 s] w fun e w' => e = .returned (.int .i64 0) ∧ w = w' := by
  go_enter Tryd.func15, Tryd.ntmps15
  go_wp2_with (first | (go_at_call 11; ((with_reducible refine (of_4 s _ ht h1).mono ?_); rintro e w' ⟨rfl, rfl⟩)) | (go_at_call 13; ((with_reducible refine (chk_4 s _ ht h1).mono ?_); rintro e w' ⟨rfl, rfl⟩)))
  go_ret
  exact ⟨rfl, rfl⟩

set_option maxHeartbeats 800000 in
theorem refRom_4 (s : Int) (w : World) (h1 : 4097 ≤ s) : Calls Tryd.prog 16 #[.int .i64 s] w fun e w' => e = .returned (.int .i64 0) ∧ w = w' := by
  go_enter Tryd.func16, Tryd.ntmps16
  go_wp2_with (first | (go_at_call 12; ((with_reducible refine (refOf_4 s _ h1).mono ?_); rintro e w' ⟨rfl, rfl⟩)) | (go_at_call 14; ((with_reducible refine (refChk_4 s _ h1).mono ?_); rintro e w' ⟨rfl, rfl⟩)))
  go_ret
  exact ⟨rfl, rfl⟩

set_option maxHeartbeats 800000 in
theorem rom_5 (s : Int) (w : World) (ht : Tab w) (h1 : s ≤ -1) : Calls Tryd.prog 15 #[.int .i64 s] w fun e w' => e = .returned (.int .i64 0) ∧ w = w' := by
  go_enter Tryd.func15, Tryd.ntmps15
  go_wp2_with (first | (go_at_call 11; ((with_reducible refine (of_5 s _ ht h1).mono ?_); rintro e w' ⟨rfl, rfl⟩)) | (go_at_call 13; ((with_reducible refine (chk_5 s _ ht h1).mono ?_); rintro e w' ⟨rfl, rfl⟩)))
  go_ret
  exact ⟨rfl, rfl⟩

set_option maxHeartbeats 800000 in
theorem refRom_5 (s : Int) (w : World) (h1 : s ≤ -1) : Calls Tryd.prog 16 #[.int .i64 s] w fun e w' => e = .returned (.int .i64 0) ∧ w = w' := by
  go_enter Tryd.func16, Tryd.ntmps16
  go_wp2_with (first | (go_at_call 12; ((with_reducible refine (refOf_5 s _ h1).mono ?_); rintro e w' ⟨rfl, rfl⟩)) | (go_at_call 14; ((with_reducible refine (refChk_5 s _ h1).mono ?_); rintro e w' ⟨rfl, rfl⟩)))
  go_ret
  exact ⟨rfl, rfl⟩

def romJ (s : Int) : Int := if s < 0 then 0 else if s ≤ 2 then 4 else if s ≤ 6 then 8 else if s ≤ 14 then 16 else if s ≤ 4096 then (s + 33) / 32 * 32 else 0
theorem rom_any (s : Int) (w : World) (ht : Tab w) : Calls Tryd.prog 15 #[.int .i64 s] w fun e w' => e = .returned (.int .i64 (romJ s)) ∧ w = w' := by
  by_cases a1 : s < 0
  · rw [show romJ s = 0 by simp [romJ, a1]]; exact rom_5 s w ht (by omega)
  by_cases a2 : s ≤ 2
  · rw [show romJ s = 4 by simp [romJ, a1, a2]]; exact rom_0 s w ht (by omega) a2
  by_cases a3 : s ≤ 6
  · rw [show romJ s = 8 by simp [romJ, a1, a2, a3]]; exact rom_1 s w ht (by omega) a3
  by_cases a5 : s ≤ 14
  · rw [show romJ s = 16 by simp [romJ, a1, a2, a3, a5]]; exact rom_2 s w ht (by omega) a5
  by_cases a6 : s ≤ 4096
  · rw [show romJ s = (s + 33) / 32 * 32 by simp [romJ, a1, a2, a3, a5, a6]]; exact rom_3 s w ht (by omega) a6
  · rw [show romJ s = 0 by simp [romJ, a1, a2, a3, a5, a6]]; exact rom_4 s w ht (by omega)

theorem refRom_any (s : Int) (w : World) : Calls Tryd.prog 16 #[.int .i64 s] w fun e w' => e = .returned (.int .i64 (romJ s)) ∧ w = w' := by
  by_cases a1 : s < 0
  · rw [show romJ s = 0 by simp [romJ, a1]]; exact refRom_5 s w (by omega)
  by_cases a2 : s ≤ 2
  · rw [show romJ s = 4 by simp [romJ, a1, a2]]; exact refRom_0 s w (by omega) a2
  by_cases a3 : s ≤ 6
  · rw [show romJ s = 8 by simp [romJ, a1, a2, a3]]; exact refRom_1 s w (by omega) a3
  by_cases a5 : s ≤ 14
  · rw [show romJ s = 16 by simp [romJ, a1, a2, a3, a5]]; exact refRom_2 s w (by omega) a5
  by_cases a6 : s ≤ 4096
  · rw [show romJ s = (s + 33) / 32 * 32 by simp [romJ, a1, a2, a3, a5, a6]]; exact refRom_3 s w (by omega) a6
  · rw [show romJ s = 0 by simp [romJ, a1, a2, a3, a5, a6]]; exact refRom_4 s w (by omega)

end Go.Proofs.YtalplklaepbaeaaDoor
