/-
  Part of the proof of JournalUndo.
-/
import Derived.Test.YtkkbngcgphlikaaGreatDoorJu16
import Derived.Test.YtkkbngcgphlikaaGreatDoorJu0
set_option maxRecDepth 10000
set_option maxHeartbeats 2000000
set_option linter.unusedVariables false
set_option linter.unusedSimpArgs false
namespace Go.Proofs.YtkkbngcgphlikaaGreatDoor
open Go.RowKit
theorem refPw_8 (w : World) : Calls Tryz.prog 115 #[.int .i64 8] w fun e w' => e = .returned (.int .u64 256) ∧ w = w' := refPower10 8 w (by omega)
theorem refPw_4 (w : World) : Calls Tryz.prog 115 #[.int .i64 4] w fun e w' => e = .returned (.int .u64 16) ∧ w = w' := refPower10 4 w (by omega)
theorem refPw_2 (w : World) : Calls Tryz.prog 115 #[.int .i64 2] w fun e w' => e = .returned (.int .u64 4) ∧ w = w' := refPower10 2 w (by omega)
theorem refRight_o (k c l m b : Int) (w : World) (hk : k = 0 ∨ k = 3 ∨ k = 2 ∨ k = 4 ∨ (¬ k = 0 ∧ ¬ k = 1 ∧ ¬ k = 2 ∧ ¬ k = 3 ∧ ¬ k = 4)) :
 Calls Tryz.prog 114 #[.agg #[.int .i64 k, .int .i64 c, .int .i64 l, .int .i64 m, .int .u64 b]] w fun e w' => e = .returned (.bool (rightB_ti k c l m b)) ∧ Below w.heap.size w w' := by
 rcases hk with hk | hk | hk | hk | ⟨q0, q1, q2, q3, q4⟩
 all_goals
  by_cases hm7 : m ≤ 7
  all_goals
   go_enter Tryz.func114, Tryz.ntmps114
   go_wp2_with fail
  all_goals
   go_ret
   refine ⟨ret_b ?_, bZ _ _⟩
   first | (exact (right_yes (by unfold RightP; omega)).symm) | (exact (right_no (by unfold RightP; omega)).symm) | (simp [rightB_ti, RightP]; done) | (simp [rightB_ti, RightP, *]; done) | (simp [rightB_ti, RightP]; omega)
theorem refRight_1l (c l m b : Int) (w : World) (ht : Tab w) (hs : 5 < w.heap.size) (hl : ¬ l = 0) :
 Calls Tryz.prog 114 #[.agg #[.int .i64 1, .int .i64 c, .int .i64 l, .int .i64 m, .int .u64 b]] w fun e w' => e = .returned (.bool (rightB_ti 1 c l m b)) ∧ Below w.heap.size w w' := by
 have ht1 : Tab (w.alloc (.cells #[.int .i64 1, .int .i64 c, .int .i64 l, .int .i64 m, .int .u64 b] 109)).drew := tab_keep ht hs (bZ _ _).drew
 go_enter Tryz.func114, Tryz.ntmps114
 go_wp2_with fail
 refine wp_region_held_drew (S := (fun w' => w'.cell? ⟨w.heap.size, 0, none⟩ = some (.int .i64 1) ∧ w'.cell? ⟨w.heap.size, 1, none⟩ = some (.int .i64 c) ∧ w'.cell? ⟨w.heap.size, 2, none⟩ = some (.int .i64 l) ∧ w'.cell? ⟨w.heap.size, 3, none⟩ = some (.int .i64 m) ∧ w'.cell? ⟨w.heap.size, 4, none⟩ = some (.int .u64 b))) (by kernel_rfl) ?_ (fun hHeld => ?_)
 ·(try dsimp only)
  first | exact hHeld | (refine ⟨?_, ?_, ?_, ?_, ?_⟩ <;> simp [go_sem])
 refine takeQ 0 ?_
 refine takeQ 1 ?_
 refine takeQ 2 ?_
 refine takeQ 3 ?_
 refine takeQ 4 ?_
 refine takeQ 5 ?_
 refine takeQ 6 ?_
 refine takeQ 7 ?_
 refine idleQ 8 ?_
 refine idleQ 9 ?_
 refine idleQ 10 ?_
 refine takeQ 11 ?_
 refine takeQ 12 ?_
 refine idleQ 13 ?_
 refine idleQ 14 ?_
 refine idleQ 15 ?_
 refine takeQ 16 ?_
 refine takeQ 17 ?_
 refine idleQ 18 ?_
 refine idleQ 19 ?_
 refine idleQ 20 ?_
 refine idleQ 21 ?_
 refine idleQ 22 ?_
 refine idleQ 23 ?_
 refine idleQ 24 ?_
 refine takeQ 25 ?_
 refine takeQ 26 ?_
 refine wpAnyH_done (by kernel_rfl) ?_ _
 go_wp2_with fail
 go_ret
 refine ⟨ret_b ?_, (bZ _ _).drew⟩
 first | (exact (right_yes (by unfold RightP; omega)).symm) | (exact (right_no (by unfold RightP; omega)).symm) | (rw [right_yes (by unfold RightP; omega)]; first | (simp; done) | (simp [*]; done) | (simp; omega)) | (rw [right_no (by unfold RightP; omega)]; first | (simp; done) | (simp [*]; done) | (simp; omega))
theorem refRight_1m (c l m b : Int) (w : World) (ht : Tab w) (hs : 5 < w.heap.size) (hm : ¬ m = 0) :
 Calls Tryz.prog 114 #[.agg #[.int .i64 1, .int .i64 c, .int .i64 0, .int .i64 m, .int .u64 b]] w fun e w' => e = .returned (.bool (rightB_ti 1 c 0 m b)) ∧ Below w.heap.size w w' := by
 have ht1 : Tab (w.alloc (.cells #[.int .i64 1, .int .i64 c, .int .i64 0, .int .i64 m, .int .u64 b] 109)).drew := tab_keep ht hs (bZ _ _).drew
 go_enter Tryz.func114, Tryz.ntmps114
 go_wp2_with fail
 refine wp_region_held_drew (S := (fun w' => w'.cell? ⟨w.heap.size, 0, none⟩ = some (.int .i64 1) ∧ w'.cell? ⟨w.heap.size, 1, none⟩ = some (.int .i64 c) ∧ w'.cell? ⟨w.heap.size, 2, none⟩ = some (.int .i64 0) ∧ w'.cell? ⟨w.heap.size, 3, none⟩ = some (.int .i64 m) ∧ w'.cell? ⟨w.heap.size, 4, none⟩ = some (.int .u64 b))) (by kernel_rfl) ?_ (fun hHeld => ?_)
 ·(try dsimp only)
  first | exact hHeld | (refine ⟨?_, ?_, ?_, ?_, ?_⟩ <;> simp [go_sem])
 refine takeQ 0 ?_
 refine takeQ 1 ?_
 refine takeQ 2 ?_
 refine takeQ 3 ?_
 refine takeQ 4 ?_
 refine takeQ 5 ?_
 refine takeQ 6 ?_
 refine takeQ 7 ?_
 refine idleQ 8 ?_
 refine idleQ 9 ?_
 refine idleQ 10 ?_
 refine takeQ 11 ?_
 refine takeQ 12 ?_
 refine idleQ 13 ?_
 refine idleQ 14 ?_
 refine idleQ 15 ?_
 refine takeQ 16 ?_
 refine takeQ 17 ?_
 refine idleQ 18 ?_
 refine idleQ 19 ?_
 refine idleQ 20 ?_
 refine idleQ 21 ?_
 refine idleQ 22 ?_
 refine idleQ 23 ?_
 refine idleQ 24 ?_
 refine takeQ 25 ?_
 refine takeQ 26 ?_
 refine wpAnyH_done (by kernel_rfl) ?_ _
 go_wp2_with fail
 go_ret
 refine ⟨ret_b ?_, (bZ _ _).drew⟩
 first | (exact (right_yes (by unfold RightP; omega)).symm) | (exact (right_no (by unfold RightP; omega)).symm) | (rw [right_yes (by unfold RightP; omega)]; first | (simp; done) | (simp [*]; done) | (simp; omega)) | (rw [right_no (by unfold RightP; omega)]; first | (simp; done) | (simp [*]; done) | (simp; omega))
theorem refRight_1b (c l m b : Int) (w : World) (ht : Tab w) (hs : 5 < w.heap.size) (hc : 3 ≤ c) :
 Calls Tryz.prog 114 #[.agg #[.int .i64 1, .int .i64 c, .int .i64 0, .int .i64 0, .int .u64 b]] w fun e w' => e = .returned (.bool (rightB_ti 1 c 0 0 b)) ∧ Below w.heap.size w w' := by
 have ht1 : Tab (w.alloc (.cells #[.int .i64 1, .int .i64 c, .int .i64 0, .int .i64 0, .int .u64 b] 109)).drew := tab_keep ht hs (bZ _ _).drew
 have c00 : 0 ≤ c := by omega
 have c22 : decide (c ≤ 2) = false := decide_eq_false (by omega)
 have c23 : ¬ c ≤ 2 := by omega
 clear hc
 go_enter Tryz.func114, Tryz.ntmps114
 go_wp2_with fail
 refine wp_region_held_drew (S := (fun w' => w'.cell? ⟨w.heap.size, 0, none⟩ = some (.int .i64 1) ∧ w'.cell? ⟨w.heap.size, 1, none⟩ = some (.int .i64 c) ∧ w'.cell? ⟨w.heap.size, 2, none⟩ = some (.int .i64 0) ∧ w'.cell? ⟨w.heap.size, 3, none⟩ = some (.int .i64 0) ∧ w'.cell? ⟨w.heap.size, 4, none⟩ = some (.int .u64 b))) (by kernel_rfl) ?_ (fun hHeld => ?_)
 ·(try dsimp only)
  first | exact hHeld | (refine ⟨?_, ?_, ?_, ?_, ?_⟩ <;> simp [go_sem])
 refine takeQ 0 ?_
 refine takeQ 1 ?_
 refine takeQ 2 ?_
 refine takeQ 3 ?_
 refine takeQ 4 ?_
 refine takeQ 5 ?_
 refine takeQ 6 ?_
 refine takeQ 7 ?_
 refine takeQ 8 ?_
 refine takeQ 9 ?_
 refine takeQ 10 ?_
 refine takeQ 11 ?_
 refine takeQ 12 ?_
 refine takeQ 13 ?_
 refine takeQ 14 ?_
 refine takeQ 15 ?_
 refine takeQ 16 ?_
 refine takeQ 17 ?_
 refine idleQ 18 ?_
 refine idleQ 19 ?_
 refine idleQ 20 ?_
 refine idleQ 21 ?_
 refine idleQ 22 ?_
 refine idleQ 23 ?_
 refine idleQ 24 ?_
 refine takeQ 25 ?_
 refine takeQ 26 ?_
 refine wpAnyH_done (by kernel_rfl) ?_ _
 go_wp2_with fail
 go_ret
 refine ⟨ret_b ?_, (bZ _ _).drew⟩
 first | (exact (right_yes (by unfold RightP; omega)).symm) | (exact (right_no (by unfold RightP; omega)).symm) | (rw [right_yes (by unfold RightP; omega)]; first | (simp; done) | (simp [*]; done) | (simp; omega)) | (rw [right_no (by unfold RightP; omega)]; first | (simp; done) | (simp [*]; done) | (simp; omega))
theorem refRight_1s (c l m b : Int) (w : World) (ht : Tab w) (hs : 5 < w.heap.size) (hc : c ≤ -1) :
 Calls Tryz.prog 114 #[.agg #[.int .i64 1, .int .i64 c, .int .i64 0, .int .i64 0, .int .u64 b]] w fun e w' => e = .returned (.bool (rightB_ti 1 c 0 0 b)) ∧ Below w.heap.size w w' := by
 have ht1 : Tab (w.alloc (.cells #[.int .i64 1, .int .i64 c, .int .i64 0, .int .i64 0, .int .u64 b] 109)).drew := tab_keep ht hs (bZ _ _).drew
 have c22 : decide (0 ≤ c) = false := decide_eq_false (by omega)
 have c23 : ¬ 0 ≤ c := by omega
 clear hc
 go_enter Tryz.func114, Tryz.ntmps114
 go_wp2_with fail
 refine wp_region_held_drew (S := (fun w' => w'.cell? ⟨w.heap.size, 0, none⟩ = some (.int .i64 1) ∧ w'.cell? ⟨w.heap.size, 1, none⟩ = some (.int .i64 c) ∧ w'.cell? ⟨w.heap.size, 2, none⟩ = some (.int .i64 0) ∧ w'.cell? ⟨w.heap.size, 3, none⟩ = some (.int .i64 0) ∧ w'.cell? ⟨w.heap.size, 4, none⟩ = some (.int .u64 b))) (by kernel_rfl) ?_ (fun hHeld => ?_)
 ·(try dsimp only)
  first | exact hHeld | (refine ⟨?_, ?_, ?_, ?_, ?_⟩ <;> simp [go_sem])
 refine takeQ 0 ?_
 refine takeQ 1 ?_
 refine takeQ 2 ?_
 refine takeQ 3 ?_
 refine takeQ 4 ?_
 refine takeQ 5 ?_
 refine takeQ 6 ?_
 refine takeQ 7 ?_
 refine takeQ 8 ?_
 refine takeQ 9 ?_
 refine takeQ 10 ?_
 refine takeQ 11 ?_
 refine takeQ 12 ?_
 refine idleQ 13 ?_
 refine idleQ 14 ?_
 refine idleQ 15 ?_
 refine takeQ 16 ?_
 refine takeQ 17 ?_
 refine idleQ 18 ?_
 refine idleQ 19 ?_
 refine idleQ 20 ?_
 refine idleQ 21 ?_
 refine idleQ 22 ?_
 refine idleQ 23 ?_
 refine idleQ 24 ?_
 refine takeQ 25 ?_
 refine takeQ 26 ?_
 refine wpAnyH_done (by kernel_rfl) ?_ _
 go_wp2_with fail
 go_ret
 refine ⟨ret_b ?_, (bZ _ _).drew⟩
 first | (exact (right_yes (by unfold RightP; omega)).symm) | (exact (right_no (by unfold RightP; omega)).symm) | (rw [right_yes (by unfold RightP; omega)]; first | (simp; done) | (simp [*]; done) | (simp; omega)) | (rw [right_no (by unfold RightP; omega)]; first | (simp; done) | (simp [*]; done) | (simp; omega))
theorem refRight_1c (c b : Int) (w : World) (ht : Tab w) (hs : 5 < w.heap.size) (hb0 : 0 ≤ b) (hc : c = 0 ∨ c = 1 ∨ c = 2) :
 Calls Tryz.prog 114 #[.agg #[.int .i64 1, .int .i64 c, .int .i64 0, .int .i64 0, .int .u64 b]] w fun e w' => e = .returned (.bool (rightB_ti 1 c 0 0 b)) ∧ Below w.heap.size w w' := by
 have ht1 : Tab (w.alloc (.cells #[.int .i64 1, .int .i64 c, .int .i64 0, .int .i64 0, .int .u64 b] 109)).drew := tab_keep ht hs (bZ _ _).drew
 obtain ⟨P, hP⟩ : ∃ P : Int, (c = 0 ∧ P = 256) ∨ (c = 1 ∧ P = 16) ∨ (c = 2 ∧ P = 4) := by
  rcases hc with h | h | h
  ·exact ⟨256, .inl ⟨h, rfl⟩⟩
  ·exact ⟨16, .inr (.inl ⟨h, rfl⟩)⟩
  exact ⟨4, .inr (.inr ⟨h, rfl⟩)⟩
 clear hc
 by_cases hq : b < P
 all_goals rcases hP with ⟨hc, rfl⟩ | ⟨hc, rfl⟩ | ⟨hc, rfl⟩
 all_goals
  have c00 : 0 ≤ c := by omega
  have c01 : decide (0 ≤ c) = true := decide_eq_true c00
  have c02 : c ≤ 2 := by omega
  have c03 : decide (c ≤ 2) = true := decide_eq_true c02
  replace hc := lh hc
  go_enter Tryz.func114, Tryz.ntmps114
  go_wp2_with fail
  refine wp_region_held_drew (S := (fun w' => w'.cell? ⟨w.heap.size, 0, none⟩ = some (.int .i64 1) ∧ w'.cell? ⟨w.heap.size, 1, none⟩ = some (.int .i64 c) ∧ w'.cell? ⟨w.heap.size, 2, none⟩ = some (.int .i64 0) ∧ w'.cell? ⟨w.heap.size, 3, none⟩ = some (.int .i64 0) ∧ w'.cell? ⟨w.heap.size, 4, none⟩ = some (.int .u64 b))) (by kernel_rfl) ?_ (fun hHeld => ?_)
  ·(try dsimp only)
   first | exact hHeld | (refine ⟨?_, ?_, ?_, ?_, ?_⟩ <;> simp [go_sem])
  refine takeQ 0 ?_
  refine takeQ 1 ?_
  refine takeQ 2 ?_
  refine takeQ 3 ?_
  refine takeQ 4 ?_
  refine takeQ 5 ?_
  refine takeQ 6 ?_
  refine takeQ 7 ?_
  refine takeQ 8 ?_
  refine takeQ 9 ?_
  refine takeQ 10 ?_
  refine takeQ 11 ?_
  refine takeQ 12 ?_
  refine takeQ 13 ?_
  refine takeQ 14 ?_
  refine takeQ 15 ?_
  refine takeQ 16 ?_
  refine takeQ 17 ?_
  refine takeQ 18 ?_
  refine takeQ 19 ?_
  refine takeQ 20 ?_
  refine takeQ 21 ?_
  refine oneL 22 rfl (by kernel_rfl) (fun K hK => ?_)
  go_simp
  (go_at_call 60; (with_reducible first | refine (refMny_0 c _ hc.out).mono ?_ | refine (refMny_1 c _ hc.out).mono ?_ | refine (refMny_2 c _ hc.out).mono ?_); rintro e w8 ⟨rfl, rfl⟩)
  refine hK.out _ _ ?_ (fun hHeld2 => ?_)
  ·(try dsimp only)
   first | exact hHeld | (refine ⟨?_, ?_, ?_, ?_, ?_⟩ <;> simp [go_sem])
  clear hK K hHeld
  have hHeld := hHeld2
  clear hHeld2
  try simp only [Act.put,sA,sB,sC]
  refine oneL 23 rfl (by kernel_rfl) (fun K hK => ?_)
  go_simp
  (go_at_call 115; (with_reducible first | refine (refPw_8 _).mono ?_ | refine (refPw_4 _).mono ?_ | refine (refPw_2 _).mono ?_); rintro e w8 ⟨rfl, rfl⟩)
  refine hK.out _ _ ?_ (fun hHeld2 => ?_)
  ·(try dsimp only)
   first | exact hHeld | (refine ⟨?_, ?_, ?_, ?_, ?_⟩ <;> simp [go_sem])
  clear hK K hHeld
  have hHeld := hHeld2
  clear hHeld2
  try simp only [Act.put,sA,sB,sC]
  refine takeQ 24 ?_
  refine takeQ 25 ?_
  refine takeQ 26 ?_
  refine wpAnyH_done (by kernel_rfl) ?_ _
  go_wp2_with fail
  go_ret
  refine ⟨ret_b ?_, (bZ _ _).drew⟩
  replace hc := hc.out
  first | (exact (right_yes (by unfold RightP; omega)).symm) | (exact (right_no (by unfold RightP; omega)).symm) | (rw [right_yes (by unfold RightP; omega)]; first | (simp; done) | (simp [*]; done) | (simp; omega)) | (rw [right_no (by unfold RightP; omega)]; first | (simp; done) | (simp [*]; done) | (simp; omega))
theorem refRight_any_ti (k c l m b : Int) (w : World) (ht : Tab w) (hs : 5 < w.heap.size) (b0 : 0 ≤ b) :
 Calls Tryz.prog 114 #[.agg #[.int .i64 k, .int .i64 c, .int .i64 l, .int .i64 m, .int .u64 b]] w fun e w' => e = .returned (.bool (rightB_ti k c l m b)) ∧ Below w.heap.size w w' := by
 by_cases q1 : k = 1
 rotate_left
 ·exact refRight_o k c l m b w (by omega)
 subst q1
 by_cases hl : l = 0
 ·subst hl
  by_cases hm : m = 0
  ·subst hm
   by_cases h3 : 3 ≤ c ∨ c ≤ -1
   ·rcases h3 with h3 | h3; exact refRight_1b c 0 0 b w ht hs h3; exact refRight_1s c 0 0 b w ht hs h3
   exact refRight_1c c b w ht hs b0 (by omega)
  exact refRight_1m c 0 m b w ht hs hm
 exact refRight_1l c l m b w ht hs hl
end Go.Proofs.YtkkbngcgphlikaaGreatDoor
