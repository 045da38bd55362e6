/-
  Part of the proof of MendWhole.
-/
import Derived.Test.YtkdhdibjbabgfaaGreatDoorVw19
import Derived.Test.YtkdhdibjbabgfaaGreatDoorVw20
import Derived.Test.YtkdhdibjbabgfaaGreatDoorVw31
import Derived.Test.YtkdhdibjbabgfaaGreatDoorVw9
import Derived.Test.YtkdhdibjbabgfaaGreatDoorVw0
set_option maxRecDepth 20000
set_option maxHeartbeats 2000000
set_option linter.unusedVariables false
set_option linter.unusedSimpArgs false
section
namespace Go.Proofs.YtkdhdibjbabgfaaGreatDoor
open Go.RowKit
theorem SL.cell {w : World} {g o n c : Nat} {l : List Nat} (h : SL w (.slice (some ⟨g, o, none⟩) n c) l) (i : Nat) (hi : i < l.length) : w.cell? ⟨g, o + i, none⟩ = some (.int .u64 (l.getD i 0 : Nat)) := by
 rcases h with ⟨rfl, _⟩ | ⟨g', o', c', hv, hg, hcap, hc⟩
 ·simp at hi
 ·simp only [Value.slice.injEq, Option.some.injEq, Addr.mk.injEq, and_true] at hv
  obtain ⟨⟨rfl, rfl⟩, _, _⟩ := hv
  exact hc i hi
theorem SL.lt {w : World} {g o n c : Nat} {l : List Nat} (h : SL w (.slice (some ⟨g, o, none⟩) n c) l) (hi : 0 < l.length) : g < w.heap.size := by
 rcases h with ⟨rfl, _⟩ | ⟨g', o', c', hv, hg, hcap, hc⟩
 ·simp at hi
 ·simp only [Value.slice.injEq, Option.some.injEq, Addr.mk.injEq, and_true] at hv
  obtain ⟨⟨rfl, rfl⟩, _, _⟩ := hv
  exact hg
theorem headW_len (W L G : Nat) : (headW W L G).length = 8 := by simp [headW, headL]
end Go.Proofs.YtkdhdibjbabgfaaGreatDoor
end
section
namespace Go.Proofs.YtkdhdibjbabgfaaGreatDoor
open Go.RowKit
theorem refPw_8 (w : World) : Calls Tryz.prog 118 #[.int .i64 8] w fun e w' => e = .returned (.int .u64 256) ∧ w = w' := refPower10 8 w (by omega)
theorem refPw_4 (w : World) : Calls Tryz.prog 118 #[.int .i64 4] w fun e w' => e = .returned (.int .u64 16) ∧ w = w' := refPower10 4 w (by omega)
theorem refPw_2 (w : World) : Calls Tryz.prog 118 #[.int .i64 2] w fun e w' => e = .returned (.int .u64 4) ∧ w = w' := refPower10 2 w (by omega)
theorem refRight_0 (k c l m b : Int) (w : World) (hk : k = 0) :
 Calls Tryz.prog 87 #[.agg #[.int .i64 k, .int .i64 c, .int .i64 l, .int .i64 m, .int .u64 b]] w fun e w' => e = .returned (.bool (rightB_ti k c l m b)) ∧ Below w.heap.size w w' := by
 skip
 all_goals
  go_enter Tryz.func87, Tryz.ntmps87
  go_wp2_with fail
 all_goals
  go_ret
  refine ⟨ret_b ?_, bZ _ _⟩
  first | (exact (right_yes (by unfold RightP; omega)).symm) | (exact (right_no (by unfold RightP; omega)).symm) | (simp [rightB_ti, RightP]; done) | (simp [rightB_ti, RightP, *]; done) | (simp [rightB_ti, RightP]; omega)
theorem refRight_3 (k c l m b : Int) (w : World) (hk : k = 3) :
 Calls Tryz.prog 87 #[.agg #[.int .i64 k, .int .i64 c, .int .i64 l, .int .i64 m, .int .u64 b]] w fun e w' => e = .returned (.bool (rightB_ti k c l m b)) ∧ Below w.heap.size w w' := by
 skip
 all_goals
  go_enter Tryz.func87, Tryz.ntmps87
  go_wp2_with fail
 all_goals
  go_ret
  refine ⟨ret_b ?_, bZ _ _⟩
  first | (exact (right_yes (by unfold RightP; omega)).symm) | (exact (right_no (by unfold RightP; omega)).symm) | (simp [rightB_ti, RightP]; done) | (simp [rightB_ti, RightP, *]; done) | (simp [rightB_ti, RightP]; omega)
theorem refRight_2 (k c l m b : Int) (w : World) (hk : k = 2) :
 Calls Tryz.prog 87 #[.agg #[.int .i64 k, .int .i64 c, .int .i64 l, .int .i64 m, .int .u64 b]] w fun e w' => e = .returned (.bool (rightB_ti k c l m b)) ∧ Below w.heap.size w w' := by
 skip
 all_goals
  go_enter Tryz.func87, Tryz.ntmps87
  go_wp2_with fail
 all_goals
  go_ret
  refine ⟨ret_b ?_, bZ _ _⟩
  first | (exact (right_yes (by unfold RightP; omega)).symm) | (exact (right_no (by unfold RightP; omega)).symm) | (simp [rightB_ti, RightP]; done) | (simp [rightB_ti, RightP, *]; done) | (simp [rightB_ti, RightP]; omega)
theorem refRight_4 (k c l m b : Int) (w : World) (hk : k = 4) :
 Calls Tryz.prog 87 #[.agg #[.int .i64 k, .int .i64 c, .int .i64 l, .int .i64 m, .int .u64 b]] w fun e w' => e = .returned (.bool (rightB_ti k c l m b)) ∧ Below w.heap.size w w' := by
 by_cases hm7 : m ≤ 7
 all_goals
  go_enter Tryz.func87, Tryz.ntmps87
  go_wp2_with fail
 all_goals
  go_ret
  refine ⟨ret_b ?_, bZ _ _⟩
  first | (exact (right_yes (by unfold RightP; omega)).symm) | (exact (right_no (by unfold RightP; omega)).symm) | (simp [rightB_ti, RightP]; done) | (simp [rightB_ti, RightP, *]; done) | (simp [rightB_ti, RightP]; omega)
theorem refRight_x (k c l m b : Int) (w : World) (q0 : ¬ k = 0) (q1 : ¬ k = 1) (q2 : ¬ k = 2) (q3 : ¬ k = 3) (q4 : ¬ k = 4) :
 Calls Tryz.prog 87 #[.agg #[.int .i64 k, .int .i64 c, .int .i64 l, .int .i64 m, .int .u64 b]] w fun e w' => e = .returned (.bool (rightB_ti k c l m b)) ∧ Below w.heap.size w w' := by
 skip
 all_goals
  go_enter Tryz.func87, Tryz.ntmps87
  go_wp2_with fail
 all_goals
  go_ret
  refine ⟨ret_b ?_, bZ _ _⟩
  first | (exact (right_yes (by unfold RightP; omega)).symm) | (exact (right_no (by unfold RightP; omega)).symm) | (simp [rightB_ti, RightP]; done) | (simp [rightB_ti, RightP, *]; done) | (simp [rightB_ti, RightP]; omega)
theorem refRight_1l (c l m b : Int) (w : World) (ht : Tab w) (hs : 5 < w.heap.size) (hl : ¬ l = 0) :
 Calls Tryz.prog 87 #[.agg #[.int .i64 1, .int .i64 c, .int .i64 l, .int .i64 m, .int .u64 b]] w fun e w' => e = .returned (.bool (rightB_ti 1 c l m b)) ∧ Below w.heap.size w w' := by
 have ht1 : Tab (w.alloc (.cells #[.int .i64 1, .int .i64 c, .int .i64 l, .int .i64 m, .int .u64 b] 96)).drew := tab_keep ht hs (bZ _ _).drew
 go_enter Tryz.func87, Tryz.ntmps87
 go_wp2_with fail
 refine wp_region_held_drew (S := (fun w' => w'.cell? ⟨w.heap.size, 0, none⟩ = some (.int .i64 1) ∧ w'.cell? ⟨w.heap.size, 1, none⟩ = some (.int .i64 c) ∧ w'.cell? ⟨w.heap.size, 2, none⟩ = some (.int .i64 l) ∧ w'.cell? ⟨w.heap.size, 3, none⟩ = some (.int .i64 m) ∧ w'.cell? ⟨w.heap.size, 4, none⟩ = some (.int .u64 b))) (by kernel_rfl) ?_ (fun hHeld => ?_)
 ·(try dsimp only)
  first | exact hHeld | (refine ⟨?_, ?_, ?_, ?_, ?_⟩ <;> simp [go_sem])
 refine takeQ 0 ?_
 refine takeQ 1 ?_
 refine takeQ 2 ?_
 refine takeQ 3 ?_
 refine takeQ 4 ?_
 refine takeQ 5 ?_
 refine takeQ 6 ?_
 refine takeQ 7 ?_
 refine idleQ 8 ?_
 refine idleQ 9 ?_
 refine idleQ 10 ?_
 refine takeQ 11 ?_
 refine takeQ 12 ?_
 refine idleQ 13 ?_
 refine idleQ 14 ?_
 refine idleQ 15 ?_
 refine takeQ 16 ?_
 refine takeQ 17 ?_
 refine idleQ 18 ?_
 refine idleQ 19 ?_
 refine idleQ 20 ?_
 refine idleQ 21 ?_
 refine idleQ 22 ?_
 refine idleQ 23 ?_
 refine idleQ 24 ?_
 refine takeQ 25 ?_
 refine takeQ 26 ?_
 refine wpAnyH_done (by kernel_rfl) ?_ _
 go_wp2_with fail
 go_ret
 refine ⟨ret_b ?_, (bZ _ _).drew⟩
 first | (exact (right_yes (by unfold RightP; omega)).symm) | (exact (right_no (by unfold RightP; omega)).symm) | (rw [right_yes (by unfold RightP; omega)]; first | (simp; done) | (simp [*]; done) | (simp; omega)) | (rw [right_no (by unfold RightP; omega)]; first | (simp; done) | (simp [*]; done) | (simp; omega))
theorem refRight_1m (c l m b : Int) (w : World) (ht : Tab w) (hs : 5 < w.heap.size) (hm : ¬ m = 0) :
 Calls Tryz.prog 87 #[.agg #[.int .i64 1, .int .i64 c, .int .i64 0, .int .i64 m, .int .u64 b]] w fun e w' => e = .returned (.bool (rightB_ti 1 c 0 m b)) ∧ Below w.heap.size w w' := by
 have ht1 : Tab (w.alloc (.cells #[.int .i64 1, .int .i64 c, .int .i64 0, .int .i64 m, .int .u64 b] 96)).drew := tab_keep ht hs (bZ _ _).drew
 go_enter Tryz.func87, Tryz.ntmps87
 go_wp2_with fail
 refine wp_region_held_drew (S := (fun w' => w'.cell? ⟨w.heap.size, 0, none⟩ = some (.int .i64 1) ∧ w'.cell? ⟨w.heap.size, 1, none⟩ = some (.int .i64 c) ∧ w'.cell? ⟨w.heap.size, 2, none⟩ = some (.int .i64 0) ∧ w'.cell? ⟨w.heap.size, 3, none⟩ = some (.int .i64 m) ∧ w'.cell? ⟨w.heap.size, 4, none⟩ = some (.int .u64 b))) (by kernel_rfl) ?_ (fun hHeld => ?_)
 ·(try dsimp only)
  first | exact hHeld | (refine ⟨?_, ?_, ?_, ?_, ?_⟩ <;> simp [go_sem])
 refine takeQ 0 ?_
 refine takeQ 1 ?_
 refine takeQ 2 ?_
 refine takeQ 3 ?_
 refine takeQ 4 ?_
 refine takeQ 5 ?_
 refine takeQ 6 ?_
 refine takeQ 7 ?_
 refine idleQ 8 ?_
 refine idleQ 9 ?_
 refine idleQ 10 ?_
 refine takeQ 11 ?_
 refine takeQ 12 ?_
 refine idleQ 13 ?_
 refine idleQ 14 ?_
 refine idleQ 15 ?_
 refine takeQ 16 ?_
 refine takeQ 17 ?_
 refine idleQ 18 ?_
 refine idleQ 19 ?_
 refine idleQ 20 ?_
 refine idleQ 21 ?_
 refine idleQ 22 ?_
 refine idleQ 23 ?_
 refine idleQ 24 ?_
 refine takeQ 25 ?_
 refine takeQ 26 ?_
 refine wpAnyH_done (by kernel_rfl) ?_ _
 go_wp2_with fail
 go_ret
 refine ⟨ret_b ?_, (bZ _ _).drew⟩
 first | (exact (right_yes (by unfold RightP; omega)).symm) | (exact (right_no (by unfold RightP; omega)).symm) | (rw [right_yes (by unfold RightP; omega)]; first | (simp; done) | (simp [*]; done) | (simp; omega)) | (rw [right_no (by unfold RightP; omega)]; first | (simp; done) | (simp [*]; done) | (simp; omega))
theorem refRight_1b (c l m b : Int) (w : World) (ht : Tab w) (hs : 5 < w.heap.size) (hc : 3 ≤ c) :
 Calls Tryz.prog 87 #[.agg #[.int .i64 1, .int .i64 c, .int .i64 0, .int .i64 0, .int .u64 b]] w fun e w' => e = .returned (.bool (rightB_ti 1 c 0 0 b)) ∧ Below w.heap.size w w' := by
 have ht1 : Tab (w.alloc (.cells #[.int .i64 1, .int .i64 c, .int .i64 0, .int .i64 0, .int .u64 b] 96)).drew := tab_keep ht hs (bZ _ _).drew
 have c00 : 0 ≤ c := by omega
 have c22 : decide (c ≤ 2) = false := decide_eq_false (by omega)
 have c23 : ¬ c ≤ 2 := by omega
 clear hc
 go_enter Tryz.func87, Tryz.ntmps87
 go_wp2_with fail
 refine wp_region_held_drew (S := (fun w' => w'.cell? ⟨w.heap.size, 0, none⟩ = some (.int .i64 1) ∧ w'.cell? ⟨w.heap.size, 1, none⟩ = some (.int .i64 c) ∧ w'.cell? ⟨w.heap.size, 2, none⟩ = some (.int .i64 0) ∧ w'.cell? ⟨w.heap.size, 3, none⟩ = some (.int .i64 0) ∧ w'.cell? ⟨w.heap.size, 4, none⟩ = some (.int .u64 b))) (by kernel_rfl) ?_ (fun hHeld => ?_)
 ·(try dsimp only)
  first | exact hHeld | (refine ⟨?_, ?_, ?_, ?_, ?_⟩ <;> simp [go_sem])
 refine takeQ 0 ?_
 refine takeQ 1 ?_
 refine takeQ 2 ?_
 refine takeQ 3 ?_
 refine takeQ 4 ?_
 refine takeQ 5 ?_
 refine takeQ 6 ?_
 refine takeQ 7 ?_
 refine takeQ 8 ?_
 refine takeQ 9 ?_
 refine takeQ 10 ?_
 refine takeQ 11 ?_
 refine takeQ 12 ?_
 refine takeQ 13 ?_
 refine takeQ 14 ?_
 refine takeQ 15 ?_
 refine takeQ 16 ?_
 refine takeQ 17 ?_
 refine idleQ 18 ?_
 refine idleQ 19 ?_
 refine idleQ 20 ?_
 refine idleQ 21 ?_
 refine idleQ 22 ?_
 refine idleQ 23 ?_
 refine idleQ 24 ?_
 refine takeQ 25 ?_
 refine takeQ 26 ?_
 refine wpAnyH_done (by kernel_rfl) ?_ _
 go_wp2_with fail
 go_ret
 refine ⟨ret_b ?_, (bZ _ _).drew⟩
 first | (exact (right_yes (by unfold RightP; omega)).symm) | (exact (right_no (by unfold RightP; omega)).symm) | (rw [right_yes (by unfold RightP; omega)]; first | (simp; done) | (simp [*]; done) | (simp; omega)) | (rw [right_no (by unfold RightP; omega)]; first | (simp; done) | (simp [*]; done) | (simp; omega))
theorem refRight_1s (c l m b : Int) (w : World) (ht : Tab w) (hs : 5 < w.heap.size) (hc : c ≤ -1) :
 Calls Tryz.prog 87 #[.agg #[.int .i64 1, .int .i64 c, .int .i64 0, .int .i64 0, .int .u64 b]] w fun e w' => e = .returned (.bool (rightB_ti 1 c 0 0 b)) ∧ Below w.heap.size w w' := by
 have ht1 : Tab (w.alloc (.cells #[.int .i64 1, .int .i64 c, .int .i64 0, .int .i64 0, .int .u64 b] 96)).drew := tab_keep ht hs (bZ _ _).drew
 have c22 : decide (0 ≤ c) = false := decide_eq_false (by omega)
 have c23 : ¬ 0 ≤ c := by omega
 clear hc
 go_enter Tryz.func87, Tryz.ntmps87
 go_wp2_with fail
 refine wp_region_held_drew (S := (fun w' => w'.cell? ⟨w.heap.size, 0, none⟩ = some (.int .i64 1) ∧ w'.cell? ⟨w.heap.size, 1, none⟩ = some (.int .i64 c) ∧ w'.cell? ⟨w.heap.size, 2, none⟩ = some (.int .i64 0) ∧ w'.cell? ⟨w.heap.size, 3, none⟩ = some (.int .i64 0) ∧ w'.cell? ⟨w.heap.size, 4, none⟩ = some (.int .u64 b))) (by kernel_rfl) ?_ (fun hHeld => ?_)
 ·(try dsimp only)
  first | exact hHeld | (refine ⟨?_, ?_, ?_, ?_, ?_⟩ <;> simp [go_sem])
 refine takeQ 0 ?_
 refine takeQ 1 ?_
 refine takeQ 2 ?_
 refine takeQ 3 ?_
 refine takeQ 4 ?_
 refine takeQ 5 ?_
 refine takeQ 6 ?_
 refine takeQ 7 ?_
 refine takeQ 8 ?_
 refine takeQ 9 ?_
 refine takeQ 10 ?_
 refine takeQ 11 ?_
 refine takeQ 12 ?_
 refine idleQ 13 ?_
 refine idleQ 14 ?_
 refine idleQ 15 ?_
 refine takeQ 16 ?_
 refine takeQ 17 ?_
 refine idleQ 18 ?_
 refine idleQ 19 ?_
 refine idleQ 20 ?_
 refine idleQ 21 ?_
 refine idleQ 22 ?_
 refine idleQ 23 ?_
 refine idleQ 24 ?_
 refine takeQ 25 ?_
 refine takeQ 26 ?_
 refine wpAnyH_done (by kernel_rfl) ?_ _
 go_wp2_with fail
 go_ret
 refine ⟨ret_b ?_, (bZ _ _).drew⟩
 first | (exact (right_yes (by unfold RightP; omega)).symm) | (exact (right_no (by unfold RightP; omega)).symm) | (rw [right_yes (by unfold RightP; omega)]; first | (simp; done) | (simp [*]; done) | (simp; omega)) | (rw [right_no (by unfold RightP; omega)]; first | (simp; done) | (simp [*]; done) | (simp; omega))
theorem refRight_10y (c l m b : Int) (w : World) (ht : Tab w) (hs : 5 < w.heap.size) (hb0 : 0 ≤ b) (hb : b < 256) :
 Calls Tryz.prog 87 #[.agg #[.int .i64 1, .int .i64 0, .int .i64 0, .int .i64 0, .int .u64 b]] w fun e w' => e = .returned (.bool (rightB_ti 1 0 0 0 b)) ∧ Below w.heap.size w w' := by
 have ht1 : Tab (w.alloc (.cells #[.int .i64 1, .int .i64 0, .int .i64 0, .int .i64 0, .int .u64 b] 96)).drew := tab_keep ht hs (bZ _ _).drew
 go_enter Tryz.func87, Tryz.ntmps87
 go_wp2_with fail
 refine wp_region_held_drew (S := (fun w' => w'.cell? ⟨w.heap.size, 0, none⟩ = some (.int .i64 1) ∧ w'.cell? ⟨w.heap.size, 1, none⟩ = some (.int .i64 0) ∧ w'.cell? ⟨w.heap.size, 2, none⟩ = some (.int .i64 0) ∧ w'.cell? ⟨w.heap.size, 3, none⟩ = some (.int .i64 0) ∧ w'.cell? ⟨w.heap.size, 4, none⟩ = some (.int .u64 b))) (by kernel_rfl) ?_ (fun hHeld => ?_)
 ·(try dsimp only)
  first | exact hHeld | (refine ⟨?_, ?_, ?_, ?_, ?_⟩ <;> simp [go_sem])
 refine takeQ 0 ?_
 refine takeQ 1 ?_
 refine takeQ 2 ?_
 refine takeQ 3 ?_
 refine takeQ 4 ?_
 refine takeQ 5 ?_
 refine takeQ 6 ?_
 refine takeQ 7 ?_
 refine takeQ 8 ?_
 refine takeQ 9 ?_
 refine takeQ 10 ?_
 refine takeQ 11 ?_
 refine takeQ 12 ?_
 refine takeQ 13 ?_
 refine takeQ 14 ?_
 refine takeQ 15 ?_
 refine takeQ 16 ?_
 refine takeQ 17 ?_
 refine takeQ 18 ?_
 refine takeQ 19 ?_
 refine takeQ 20 ?_
 refine takeQ 21 ?_
 refine oneL 22 rfl (by kernel_rfl) (fun K hK => ?_)
 go_simp
 (go_at_call 58; (with_reducible refine (refMny_0 0 _ rfl).mono ?_); rintro e w8 ⟨rfl, rfl⟩)
 refine hK.out _ _ ?_ (fun hHeld2 => ?_)
 ·(try dsimp only)
  first | exact hHeld | (refine ⟨?_, ?_, ?_, ?_, ?_⟩ <;> simp [go_sem])
 clear hK K hHeld
 have hHeld := hHeld2
 clear hHeld2
 try simp only [Act.put,sA,sB,sC]
 refine oneL 23 rfl (by kernel_rfl) (fun K hK => ?_)
 go_simp
 (go_at_call 118; (with_reducible refine (refPw_8 _).mono ?_); rintro e w8 ⟨rfl, rfl⟩)
 refine hK.out _ _ ?_ (fun hHeld2 => ?_)
 ·(try dsimp only)
  first | exact hHeld | (refine ⟨?_, ?_, ?_, ?_, ?_⟩ <;> simp [go_sem])
 clear hK K hHeld
 have hHeld := hHeld2
 clear hHeld2
 try simp only [Act.put,sA,sB,sC]
 refine takeQ 24 ?_
 refine takeQ 25 ?_
 refine takeQ 26 ?_
 refine wpAnyH_done (by kernel_rfl) ?_ _
 go_wp2_with fail
 go_ret
 refine ⟨ret_b ?_, (bZ _ _).drew⟩
 first | (exact (right_yes (by unfold RightP; omega)).symm) | (exact (right_no (by unfold RightP; omega)).symm) | (rw [right_yes (by unfold RightP; omega)]; first | (simp; done) | (simp [*]; done) | (simp; omega)) | (rw [right_no (by unfold RightP; omega)]; first | (simp; done) | (simp [*]; done) | (simp; omega))
theorem refRight_10n (c l m b : Int) (w : World) (ht : Tab w) (hs : 5 < w.heap.size) (hb0 : 0 ≤ b) (hb : 256 ≤ b) :
 Calls Tryz.prog 87 #[.agg #[.int .i64 1, .int .i64 0, .int .i64 0, .int .i64 0, .int .u64 b]] w fun e w' => e = .returned (.bool (rightB_ti 1 0 0 0 b)) ∧ Below w.heap.size w w' := by
 have ht1 : Tab (w.alloc (.cells #[.int .i64 1, .int .i64 0, .int .i64 0, .int .i64 0, .int .u64 b] 96)).drew := tab_keep ht hs (bZ _ _).drew
 go_enter Tryz.func87, Tryz.ntmps87
 go_wp2_with fail
 refine wp_region_held_drew (S := (fun w' => w'.cell? ⟨w.heap.size, 0, none⟩ = some (.int .i64 1) ∧ w'.cell? ⟨w.heap.size, 1, none⟩ = some (.int .i64 0) ∧ w'.cell? ⟨w.heap.size, 2, none⟩ = some (.int .i64 0) ∧ w'.cell? ⟨w.heap.size, 3, none⟩ = some (.int .i64 0) ∧ w'.cell? ⟨w.heap.size, 4, none⟩ = some (.int .u64 b))) (by kernel_rfl) ?_ (fun hHeld => ?_)
 ·(try dsimp only)
  first | exact hHeld | (refine ⟨?_, ?_, ?_, ?_, ?_⟩ <;> simp [go_sem])
 refine takeQ 0 ?_
 refine takeQ 1 ?_
 refine takeQ 2 ?_
 refine takeQ 3 ?_
 refine takeQ 4 ?_
 refine takeQ 5 ?_
 refine takeQ 6 ?_
 refine takeQ 7 ?_
 refine takeQ 8 ?_
 refine takeQ 9 ?_
 refine takeQ 10 ?_
 refine takeQ 11 ?_
 refine takeQ 12 ?_
 refine takeQ 13 ?_
 refine takeQ 14 ?_
 refine takeQ 15 ?_
 refine takeQ 16 ?_
 refine takeQ 17 ?_
 refine takeQ 18 ?_
 refine takeQ 19 ?_
 refine takeQ 20 ?_
 refine takeQ 21 ?_
 refine oneL 22 rfl (by kernel_rfl) (fun K hK => ?_)
 go_simp
 (go_at_call 58; (with_reducible refine (refMny_0 0 _ rfl).mono ?_); rintro e w8 ⟨rfl, rfl⟩)
 refine hK.out _ _ ?_ (fun hHeld2 => ?_)
 ·(try dsimp only)
  first | exact hHeld | (refine ⟨?_, ?_, ?_, ?_, ?_⟩ <;> simp [go_sem])
 clear hK K hHeld
 have hHeld := hHeld2
 clear hHeld2
 try simp only [Act.put,sA,sB,sC]
 refine oneL 23 rfl (by kernel_rfl) (fun K hK => ?_)
 go_simp
 (go_at_call 118; (with_reducible refine (refPw_8 _).mono ?_); rintro e w8 ⟨rfl, rfl⟩)
 refine hK.out _ _ ?_ (fun hHeld2 => ?_)
 ·(try dsimp only)
  first | exact hHeld | (refine ⟨?_, ?_, ?_, ?_, ?_⟩ <;> simp [go_sem])
 clear hK K hHeld
 have hHeld := hHeld2
 clear hHeld2
 try simp only [Act.put,sA,sB,sC]
 refine takeQ 24 ?_
 refine takeQ 25 ?_
 refine takeQ 26 ?_
 refine wpAnyH_done (by kernel_rfl) ?_ _
 go_wp2_with fail
 go_ret
 refine ⟨ret_b ?_, (bZ _ _).drew⟩
 first | (exact (right_yes (by unfold RightP; omega)).symm) | (exact (right_no (by unfold RightP; omega)).symm) | (rw [right_yes (by unfold RightP; omega)]; first | (simp; done) | (simp [*]; done) | (simp; omega)) | (rw [right_no (by unfold RightP; omega)]; first | (simp; done) | (simp [*]; done) | (simp; omega))
theorem refRight_11y (c l m b : Int) (w : World) (ht : Tab w) (hs : 5 < w.heap.size) (hb0 : 0 ≤ b) (hb : b < 16) :
 Calls Tryz.prog 87 #[.agg #[.int .i64 1, .int .i64 1, .int .i64 0, .int .i64 0, .int .u64 b]] w fun e w' => e = .returned (.bool (rightB_ti 1 1 0 0 b)) ∧ Below w.heap.size w w' := by
 have ht1 : Tab (w.alloc (.cells #[.int .i64 1, .int .i64 1, .int .i64 0, .int .i64 0, .int .u64 b] 96)).drew := tab_keep ht hs (bZ _ _).drew
 go_enter Tryz.func87, Tryz.ntmps87
 go_wp2_with fail
 refine wp_region_held_drew (S := (fun w' => w'.cell? ⟨w.heap.size, 0, none⟩ = some (.int .i64 1) ∧ w'.cell? ⟨w.heap.size, 1, none⟩ = some (.int .i64 1) ∧ w'.cell? ⟨w.heap.size, 2, none⟩ = some (.int .i64 0) ∧ w'.cell? ⟨w.heap.size, 3, none⟩ = some (.int .i64 0) ∧ w'.cell? ⟨w.heap.size, 4, none⟩ = some (.int .u64 b))) (by kernel_rfl) ?_ (fun hHeld => ?_)
 ·(try dsimp only)
  first | exact hHeld | (refine ⟨?_, ?_, ?_, ?_, ?_⟩ <;> simp [go_sem])
 refine takeQ 0 ?_
 refine takeQ 1 ?_
 refine takeQ 2 ?_
 refine takeQ 3 ?_
 refine takeQ 4 ?_
 refine takeQ 5 ?_
 refine takeQ 6 ?_
 refine takeQ 7 ?_
 refine takeQ 8 ?_
 refine takeQ 9 ?_
 refine takeQ 10 ?_
 refine takeQ 11 ?_
 refine takeQ 12 ?_
 refine takeQ 13 ?_
 refine takeQ 14 ?_
 refine takeQ 15 ?_
 refine takeQ 16 ?_
 refine takeQ 17 ?_
 refine takeQ 18 ?_
 refine takeQ 19 ?_
 refine takeQ 20 ?_
 refine takeQ 21 ?_
 refine oneL 22 rfl (by kernel_rfl) (fun K hK => ?_)
 go_simp
 (go_at_call 58; (with_reducible refine (refMny_1 1 _ rfl).mono ?_); rintro e w8 ⟨rfl, rfl⟩)
 refine hK.out _ _ ?_ (fun hHeld2 => ?_)
 ·(try dsimp only)
  first | exact hHeld | (refine ⟨?_, ?_, ?_, ?_, ?_⟩ <;> simp [go_sem])
 clear hK K hHeld
 have hHeld := hHeld2
 clear hHeld2
 try simp only [Act.put,sA,sB,sC]
 refine oneL 23 rfl (by kernel_rfl) (fun K hK => ?_)
 go_simp
 (go_at_call 118; (with_reducible refine (refPw_4 _).mono ?_); rintro e w8 ⟨rfl, rfl⟩)
 refine hK.out _ _ ?_ (fun hHeld2 => ?_)
 ·(try dsimp only)
  first | exact hHeld | (refine ⟨?_, ?_, ?_, ?_, ?_⟩ <;> simp [go_sem])
 clear hK K hHeld
 have hHeld := hHeld2
 clear hHeld2
 try simp only [Act.put,sA,sB,sC]
 refine takeQ 24 ?_
 refine takeQ 25 ?_
 refine takeQ 26 ?_
 refine wpAnyH_done (by kernel_rfl) ?_ _
 go_wp2_with fail
 go_ret
 refine ⟨ret_b ?_, (bZ _ _).drew⟩
 first | (exact (right_yes (by unfold RightP; omega)).symm) | (exact (right_no (by unfold RightP; omega)).symm) | (rw [right_yes (by unfold RightP; omega)]; first | (simp; done) | (simp [*]; done) | (simp; omega)) | (rw [right_no (by unfold RightP; omega)]; first | (simp; done) | (simp [*]; done) | (simp; omega))
theorem refRight_11n (c l m b : Int) (w : World) (ht : Tab w) (hs : 5 < w.heap.size) (hb0 : 0 ≤ b) (hb : 16 ≤ b) :
 Calls Tryz.prog 87 #[.agg #[.int .i64 1, .int .i64 1, .int .i64 0, .int .i64 0, .int .u64 b]] w fun e w' => e = .returned (.bool (rightB_ti 1 1 0 0 b)) ∧ Below w.heap.size w w' := by
 have ht1 : Tab (w.alloc (.cells #[.int .i64 1, .int .i64 1, .int .i64 0, .int .i64 0, .int .u64 b] 96)).drew := tab_keep ht hs (bZ _ _).drew
 go_enter Tryz.func87, Tryz.ntmps87
 go_wp2_with fail
 refine wp_region_held_drew (S := (fun w' => w'.cell? ⟨w.heap.size, 0, none⟩ = some (.int .i64 1) ∧ w'.cell? ⟨w.heap.size, 1, none⟩ = some (.int .i64 1) ∧ w'.cell? ⟨w.heap.size, 2, none⟩ = some (.int .i64 0) ∧ w'.cell? ⟨w.heap.size, 3, none⟩ = some (.int .i64 0) ∧ w'.cell? ⟨w.heap.size, 4, none⟩ = some (.int .u64 b))) (by kernel_rfl) ?_ (fun hHeld => ?_)
 ·(try dsimp only)
  first | exact hHeld | (refine ⟨?_, ?_, ?_, ?_, ?_⟩ <;> simp [go_sem])
 refine takeQ 0 ?_
 refine takeQ 1 ?_
 refine takeQ 2 ?_
 refine takeQ 3 ?_
 refine takeQ 4 ?_
 refine takeQ 5 ?_
 refine takeQ 6 ?_
 refine takeQ 7 ?_
 refine takeQ 8 ?_
 refine takeQ 9 ?_
 refine takeQ 10 ?_
 refine takeQ 11 ?_
 refine takeQ 12 ?_
 refine takeQ 13 ?_
 refine takeQ 14 ?_
 refine takeQ 15 ?_
 refine takeQ 16 ?_
 refine takeQ 17 ?_
 refine takeQ 18 ?_
 refine takeQ 19 ?_
 refine takeQ 20 ?_
 refine takeQ 21 ?_
 refine oneL 22 rfl (by kernel_rfl) (fun K hK => ?_)
 go_simp
 (go_at_call 58; (with_reducible refine (refMny_1 1 _ rfl).mono ?_); rintro e w8 ⟨rfl, rfl⟩)
 refine hK.out _ _ ?_ (fun hHeld2 => ?_)
 ·(try dsimp only)
  first | exact hHeld | (refine ⟨?_, ?_, ?_, ?_, ?_⟩ <;> simp [go_sem])
 clear hK K hHeld
 have hHeld := hHeld2
 clear hHeld2
 try simp only [Act.put,sA,sB,sC]
 refine oneL 23 rfl (by kernel_rfl) (fun K hK => ?_)
 go_simp
 (go_at_call 118; (with_reducible refine (refPw_4 _).mono ?_); rintro e w8 ⟨rfl, rfl⟩)
 refine hK.out _ _ ?_ (fun hHeld2 => ?_)
 ·(try dsimp only)
  first | exact hHeld | (refine ⟨?_, ?_, ?_, ?_, ?_⟩ <;> simp [go_sem])
 clear hK K hHeld
 have hHeld := hHeld2
 clear hHeld2
 try simp only [Act.put,sA,sB,sC]
 refine takeQ 24 ?_
 refine takeQ 25 ?_
 refine takeQ 26 ?_
 refine wpAnyH_done (by kernel_rfl) ?_ _
 go_wp2_with fail
 go_ret
 refine ⟨ret_b ?_, (bZ _ _).drew⟩
 first | (exact (right_yes (by unfold RightP; omega)).symm) | (exact (right_no (by unfold RightP; omega)).symm) | (rw [right_yes (by unfold RightP; omega)]; first | (simp; done) | (simp [*]; done) | (simp; omega)) | (rw [right_no (by unfold RightP; omega)]; first | (simp; done) | (simp [*]; done) | (simp; omega))
theorem refRight_12y (c l m b : Int) (w : World) (ht : Tab w) (hs : 5 < w.heap.size) (hb0 : 0 ≤ b) (hb : b < 4) :
 Calls Tryz.prog 87 #[.agg #[.int .i64 1, .int .i64 2, .int .i64 0, .int .i64 0, .int .u64 b]] w fun e w' => e = .returned (.bool (rightB_ti 1 2 0 0 b)) ∧ Below w.heap.size w w' := by
 have ht1 : Tab (w.alloc (.cells #[.int .i64 1, .int .i64 2, .int .i64 0, .int .i64 0, .int .u64 b] 96)).drew := tab_keep ht hs (bZ _ _).drew
 go_enter Tryz.func87, Tryz.ntmps87
 go_wp2_with fail
 refine wp_region_held_drew (S := (fun w' => w'.cell? ⟨w.heap.size, 0, none⟩ = some (.int .i64 1) ∧ w'.cell? ⟨w.heap.size, 1, none⟩ = some (.int .i64 2) ∧ w'.cell? ⟨w.heap.size, 2, none⟩ = some (.int .i64 0) ∧ w'.cell? ⟨w.heap.size, 3, none⟩ = some (.int .i64 0) ∧ w'.cell? ⟨w.heap.size, 4, none⟩ = some (.int .u64 b))) (by kernel_rfl) ?_ (fun hHeld => ?_)
 ·(try dsimp only)
  first | exact hHeld | (refine ⟨?_, ?_, ?_, ?_, ?_⟩ <;> simp [go_sem])
 refine takeQ 0 ?_
 refine takeQ 1 ?_
 refine takeQ 2 ?_
 refine takeQ 3 ?_
 refine takeQ 4 ?_
 refine takeQ 5 ?_
 refine takeQ 6 ?_
 refine takeQ 7 ?_
 refine takeQ 8 ?_
 refine takeQ 9 ?_
 refine takeQ 10 ?_
 refine takeQ 11 ?_
 refine takeQ 12 ?_
 refine takeQ 13 ?_
 refine takeQ 14 ?_
 refine takeQ 15 ?_
 refine takeQ 16 ?_
 refine takeQ 17 ?_
 refine takeQ 18 ?_
 refine takeQ 19 ?_
 refine takeQ 20 ?_
 refine takeQ 21 ?_
 refine oneL 22 rfl (by kernel_rfl) (fun K hK => ?_)
 go_simp
 (go_at_call 58; (with_reducible refine (refMny_2 2 _ rfl).mono ?_); rintro e w8 ⟨rfl, rfl⟩)
 refine hK.out _ _ ?_ (fun hHeld2 => ?_)
 ·(try dsimp only)
  first | exact hHeld | (refine ⟨?_, ?_, ?_, ?_, ?_⟩ <;> simp [go_sem])
 clear hK K hHeld
 have hHeld := hHeld2
 clear hHeld2
 try simp only [Act.put,sA,sB,sC]
 refine oneL 23 rfl (by kernel_rfl) (fun K hK => ?_)
 go_simp
 (go_at_call 118; (with_reducible refine (refPw_2 _).mono ?_); rintro e w8 ⟨rfl, rfl⟩)
 refine hK.out _ _ ?_ (fun hHeld2 => ?_)
 ·(try dsimp only)
  first | exact hHeld | (refine ⟨?_, ?_, ?_, ?_, ?_⟩ <;> simp [go_sem])
 clear hK K hHeld
 have hHeld := hHeld2
 clear hHeld2
 try simp only [Act.put,sA,sB,sC]
 refine takeQ 24 ?_
 refine takeQ 25 ?_
 refine takeQ 26 ?_
 refine wpAnyH_done (by kernel_rfl) ?_ _
 go_wp2_with fail
 go_ret
 refine ⟨ret_b ?_, (bZ _ _).drew⟩
 first | (exact (right_yes (by unfold RightP; omega)).symm) | (exact (right_no (by unfold RightP; omega)).symm) | (rw [right_yes (by unfold RightP; omega)]; first | (simp; done) | (simp [*]; done) | (simp; omega)) | (rw [right_no (by unfold RightP; omega)]; first | (simp; done) | (simp [*]; done) | (simp; omega))
theorem refRight_12n (c l m b : Int) (w : World) (ht : Tab w) (hs : 5 < w.heap.size) (hb0 : 0 ≤ b) (hb : 4 ≤ b) :
 Calls Tryz.prog 87 #[.agg #[.int .i64 1, .int .i64 2, .int .i64 0, .int .i64 0, .int .u64 b]] w fun e w' => e = .returned (.bool (rightB_ti 1 2 0 0 b)) ∧ Below w.heap.size w w' := by
 have ht1 : Tab (w.alloc (.cells #[.int .i64 1, .int .i64 2, .int .i64 0, .int .i64 0, .int .u64 b] 96)).drew := tab_keep ht hs (bZ _ _).drew
 go_enter Tryz.func87, Tryz.ntmps87
 go_wp2_with fail
 refine wp_region_held_drew (S := (fun w' => w'.cell? ⟨w.heap.size, 0, none⟩ = some (.int .i64 1) ∧ w'.cell? ⟨w.heap.size, 1, none⟩ = some (.int .i64 2) ∧ w'.cell? ⟨w.heap.size, 2, none⟩ = some (.int .i64 0) ∧ w'.cell? ⟨w.heap.size, 3, none⟩ = some (.int .i64 0) ∧ w'.cell? ⟨w.heap.size, 4, none⟩ = some (.int .u64 b))) (by kernel_rfl) ?_ (fun hHeld => ?_)
 ·(try dsimp only)
  first | exact hHeld | (refine ⟨?_, ?_, ?_, ?_, ?_⟩ <;> simp [go_sem])
 refine takeQ 0 ?_
 refine takeQ 1 ?_
 refine takeQ 2 ?_
 refine takeQ 3 ?_
 refine takeQ 4 ?_
 refine takeQ 5 ?_
 refine takeQ 6 ?_
 refine takeQ 7 ?_
 refine takeQ 8 ?_
 refine takeQ 9 ?_
 refine takeQ 10 ?_
 refine takeQ 11 ?_
 refine takeQ 12 ?_
 refine takeQ 13 ?_
 refine takeQ 14 ?_
 refine takeQ 15 ?_
 refine takeQ 16 ?_
 refine takeQ 17 ?_
 refine takeQ 18 ?_
 refine takeQ 19 ?_
 refine takeQ 20 ?_
 refine takeQ 21 ?_
 refine oneL 22 rfl (by kernel_rfl) (fun K hK => ?_)
 go_simp
 (go_at_call 58; (with_reducible refine (refMny_2 2 _ rfl).mono ?_); rintro e w8 ⟨rfl, rfl⟩)
 refine hK.out _ _ ?_ (fun hHeld2 => ?_)
 ·(try dsimp only)
  first | exact hHeld | (refine ⟨?_, ?_, ?_, ?_, ?_⟩ <;> simp [go_sem])
 clear hK K hHeld
 have hHeld := hHeld2
 clear hHeld2
 try simp only [Act.put,sA,sB,sC]
 refine oneL 23 rfl (by kernel_rfl) (fun K hK => ?_)
 go_simp
 (go_at_call 118; (with_reducible refine (refPw_2 _).mono ?_); rintro e w8 ⟨rfl, rfl⟩)
 refine hK.out _ _ ?_ (fun hHeld2 => ?_)
 ·(try dsimp only)
  first | exact hHeld | (refine ⟨?_, ?_, ?_, ?_, ?_⟩ <;> simp [go_sem])
 clear hK K hHeld
 have hHeld := hHeld2
 clear hHeld2
 try simp only [Act.put,sA,sB,sC]
 refine takeQ 24 ?_
 refine takeQ 25 ?_
 refine takeQ 26 ?_
 refine wpAnyH_done (by kernel_rfl) ?_ _
 go_wp2_with fail
 go_ret
 refine ⟨ret_b ?_, (bZ _ _).drew⟩
 first | (exact (right_yes (by unfold RightP; omega)).symm) | (exact (right_no (by unfold RightP; omega)).symm) | (rw [right_yes (by unfold RightP; omega)]; first | (simp; done) | (simp [*]; done) | (simp; omega)) | (rw [right_no (by unfold RightP; omega)]; first | (simp; done) | (simp [*]; done) | (simp; omega))
theorem refRight_any_ti (k c l m b : Int) (w : World) (ht : Tab w) (hs : 5 < w.heap.size) (b0 : 0 ≤ b) :
 Calls Tryz.prog 87 #[.agg #[.int .i64 k, .int .i64 c, .int .i64 l, .int .i64 m, .int .u64 b]] w fun e w' => e = .returned (.bool (rightB_ti k c l m b)) ∧ Below w.heap.size w w' := by
 by_cases q0 : k = 0
 ·exact refRight_0 k c l m b w q0
 by_cases q2 : k = 2
 ·exact refRight_2 k c l m b w q2
 by_cases q3 : k = 3
 ·exact refRight_3 k c l m b w q3
 by_cases q4 : k = 4
 ·exact refRight_4 k c l m b w q4
 by_cases q1 : k = 1
 ·subst q1
  by_cases hl : l = 0
  ·subst hl
   by_cases hm : m = 0
   ·subst hm
    by_cases h3 : 3 ≤ c
    ·exact refRight_1b c 0 0 b w ht hs h3
    by_cases h4 : c ≤ -1
    ·exact refRight_1s c 0 0 b w ht hs h4
    by_cases hc0 : c = 0
    ·subst hc0
     by_cases hb : b < 256
     ·exact refRight_10y 0 0 0 b w ht hs b0 hb
     ·exact refRight_10n 0 0 0 b w ht hs b0 (by omega)
    by_cases hc1 : c = 1
    ·subst hc1
     by_cases hb : b < 16
     ·exact refRight_11y 0 0 0 b w ht hs b0 hb
     ·exact refRight_11n 0 0 0 b w ht hs b0 (by omega)
    obtain rfl : c = 2 := by omega
    by_cases hb : b < 4
    ·exact refRight_12y 0 0 0 b w ht hs b0 hb
    ·exact refRight_12n 0 0 0 b w ht hs b0 (by omega)
   ·exact refRight_1m c 0 m b w ht hs hm
  ·exact refRight_1l c l m b w ht hs hl
 exact refRight_x k c l m b w q0 q1 q2 q3 q4
end Go.Proofs.YtkdhdibjbabgfaaGreatDoor
end
section
namespace Go.Proofs.YtkdhdibjbabgfaaGreatDoor
open Go.RowKit
theorem refEnc_yes (k c l m b : Int) (w : World) (hw : Lw w) (b0 : 0 ≤ b) (h : rightB_ti k c l m b = true) :
 Calls Tryz.prog 59 #[.agg #[.int .i64 k, .int .i64 c, .int .i64 l, .int .i64 m, .int .u64 b]] w fun e w' => e = .returned (.tuple #[.int .u64 (wordI k c l m b), .int .i64 0]) ∧ Below w.heap.size w w' := by
 have hr := rightB_t_ti h
 have hbd : 0 ≤ k ∧ k < 8 ∧ 0 ≤ c ∧ c < 4 ∧ 0 ≤ l ∧ l < 64 ∧ 0 ≤ m ∧ m < 8192 ∧ b < 256 := by unfold RightP at hr; omega
 obtain ⟨k0, k1, c0, c1, l0, l1, m0, m1, b1⟩ := hbd
 have H := lh h
 clear h hr
 have hw1 := lh (hw.alloc (.cells #[.int .i64 k, .int .i64 c, .int .i64 l, .int .i64 m, .int .u64 b] 96))
 have f1 : IntKind.u64.wrap k = k := by rw [IntKind.wrap_u64]; omega
 have f2 : IntKind.u64.wrap c = c := by rw [IntKind.wrap_u64]; omega
 have f3 : IntKind.u64.wrap l = l := by rw [IntKind.wrap_u64]; omega
 have f4 : IntKind.u64.wrap m = m := by rw [IntKind.wrap_u64]; omega
 have g1 : IntKind.u64.wrap (8 * c) = 8 * c := by rw [IntKind.wrap_u64]; omega
 have g2 : IntKind.u64.wrap (32 * l) = 32 * l := by rw [IntKind.wrap_u64]; omega
 have g3 : IntKind.u64.wrap (2048 * m) = 2048 * m := by rw [IntKind.wrap_u64]; omega
 have g4 : IntKind.u64.wrap (16777216 * b) = 16777216 * b := by rw [IntKind.wrap_u64]; omega
 have s1 : IntKind.u64.wrap (k + 8 * c) = k + 8 * c := by rw [IntKind.wrap_u64]; omega
 have s2 : IntKind.u64.wrap (k + 8 * c + 32 * l) = k + 8 * c + 32 * l := by rw [IntKind.wrap_u64]; omega
 have s3 : IntKind.u64.wrap (k + 8 * c + 32 * l + 2048 * m) = k + 8 * c + 32 * l + 2048 * m := by rw [IntKind.wrap_u64]; omega
 have s4 : IntKind.u64.wrap (k + 8 * c + 32 * l + 2048 * m + 16777216 * b) = k + 8 * c + 32 * l + 2048 * m + 16777216 * b := by rw [IntKind.wrap_u64]; omega
 go_enter Tryz.func59, Tryz.ntmps59
 go_wp2_with fail
 refine (refRight_any_ti k c l m b _ hw1.out.2.2.1 hw1.out.2.2.2.1 b0).mono ?_
 rw [H.out]
 rintro e w1 ⟨rfl, hb1⟩
 have kb := (C5.new w k c l m b 96).keep hb1
 have hB1 : Below w.heap.size w w1 := (bZ w _).trans (hb1.mono (by simp))
 obtain ⟨v0, v1, v2, v3, v4⟩ := kb
 go_wp2_with fail
 go_ret2
 exact ⟨by first | rfl | (rw [s4]; rfl) | (simp only [f1, f2, f3, f4, g1, g2, g3, g4, s1, s2, s3, s4]; rfl), hB1⟩
open Go.RowKit
theorem gets (x : Int) (h0 : 0 ≤ x) : getI x 0 3 = x % 8 ∧ getI x 3 2 = x / 8 % 4 ∧ getI x 5 6 = x / 32 % 64 ∧ getI x 11 13 = x / 2048 % 8192 ∧ getI x 24 8 = x / 16777216 % 256 := by
 obtain ⟨n, rfl⟩ := Int.eq_ofNat_of_zero_le h0
 unfold getI getN
 simp only [Int.toNat_natCast]
 have a1 : (0 : Int).toNat = 0 := rfl
 have a2 : (3 : Int).toNat = 3 := rfl
 have a3 : (2 : Int).toNat = 2 := rfl
 have a4 : (5 : Int).toNat = 5 := rfl
 have a5 : (6 : Int).toNat = 6 := rfl
 have a6 : (11 : Int).toNat = 11 := rfl
 have a7 : (13 : Int).toNat = 13 := rfl
 have a8 : (24 : Int).toNat = 24 := rfl
 have a9 : (8 : Int).toNat = 8 := rfl
 simp only [a1, a2, a3, a4, a5, a6, a7, a8, a9]
 omega
theorem refDecode_any_ti (x : Int) (w : World) (hw : Lw w) (h0 : 0 ≤ x) (h1 : x < 18446744073709551616) :
 Calls Tryz.prog 54 #[.int .u64 x] w fun e w' => e = .returned (.tuple #[decV x, .bool (decB_ti x)]) ∧ Below w.heap.size w w' := by
 obtain ⟨E0, E1, E2, E3, E4⟩ := gets x h0
 have hL0 := lh ((hw.alloc (.cells #[.int .i64 0, .int .i64 0, .int .i64 0, .int .i64 0, .int .u64 0] 96)).alloc (.cells #[.int .i64 (x % 8), .int .i64 (x / 8 % 4), .int .i64 (x / 32 % 64), .int .i64 (x / 2048 % 8192), .int .u64 (x / 16777216 % 256)] 96))
 have hA : Below w.heap.size w ((w.alloc (.cells #[.int .i64 0, .int .i64 0, .int .i64 0, .int .i64 0, .int .u64 0] 96)).alloc (.cells #[.int .i64 (x % 8), .int .i64 (x / 8 % 4), .int .i64 (x / 32 % 64), .int .i64 (x / 2048 % 8192), .int .u64 (x / 16777216 % 256)] 96)) := (bZ _ _).alloc (by simp) _
 have hC0 := C5.new (w.alloc (.cells #[.int .i64 0, .int .i64 0, .int .i64 0, .int .i64 0, .int .u64 0] 96)) (x % 8) (x / 8 % 4) (x / 32 % 64) (x / 2048 % 8192) (x / 16777216 % 256) 96
 rw [show (w.alloc (.cells #[.int .i64 0, .int .i64 0, .int .i64 0, .int .i64 0, .int .u64 0] 96)).heap.size = w.heap.size + 1 by simp] at hC0
 have hR0 := (Bx.new (B := w.heap.size) w 96 (Nat.le_refl _)).keep (bZ _ (.cells #[.int .i64 (x % 8), .int .i64 (x / 8 % 4), .int .i64 (x / 32 % 64), .int .i64 (x / 2048 % 8192), .int .u64 (x / 16777216 % 256)] 96))
 clear hw
 by_cases hr : rightB_ti (x % 8) (x / 8 % 4) (x / 32 % 64) (x / 2048 % 8192) (x / 16777216 % 256) = true
 ·have HR := lh hr
  clear hr
  by_cases hx : x < 4294967296
  ·have hv : decB_ti x = true := by unfold decB_ti; rw [E0, E1, E2, E3, E4, HR.out]; simpa using hx
   have hV : decV x = .agg #[.int .i64 (x % 8), .int .i64 (x / 8 % 4), .int .i64 (x / 32 % 64), .int .i64 (x / 2048 % 8192), .int .u64 (x / 16777216 % 256)] := by unfold decV; rw [if_pos hv, E0, E1, E2, E3, E4]
   have hq : x / 4294967296 = 0 := by omega
   clear E0 E1 E2 E3 E4
   go_enter Tryz.func54, Tryz.ntmps54
   go_wp2_with fail
   refine (refRight_any_ti (x % 8) (x / 8 % 4) (x / 32 % 64) (x / 2048 % 8192) (x / 16777216 % 256) _ hL0.out.2.2.1 hL0.out.2.2.2.1 (by omega)).mono ?_
   rw [HR.out]
   rintro e w1 ⟨rfl, hb⟩
   have hR1 := hR0.keep hb
   have hC1 := hC0.keep hb
   have hB1 : Below w.heap.size w w1 := hA.trans (hb.mono (by simp; omega))
   clear hR0 hC0 hA hb
   obtain ⟨c0, c1, c2, c3, c4⟩ := hC1
   have qR := hR1
   obtain ⟨⟨r0, r1, r2, r3, r4⟩, ⟨m0, m1, m2, m3, m4⟩, _⟩ := hR1
   go_wp2_with fail
   (try simp only [Exit.inBlock, Exit.then])
   obtain ⟨w7, hw7, hC7, hb7⟩ := st5_ex qR (x % 8) (x / 8 % 4) (x / 32 % 64) (x / 2048 % 8192) (x / 16777216 % 256)
   rw [← hw7]
   obtain ⟨t0, t1, t2, t3, t4⟩ := hC7
   refine bodyPost_ret (v := .tuple #[decV x, .bool (decB_ti x)]) ?_ rfl ⟨rfl, hB1.trans hb7⟩
   rw [results_cell_tmp rfl, hV, hv]
   clear hw7 hb7 qR c0 c1 c2 c3 c4 r0 r1 r2 r3 r4 m0 m1 m2 m3 m4
   go_simp
  ·have hv : decB_ti x = false := by unfold decB_ti; simp [hx]
   have hV : decV x = .agg #[.int .i64 0, .int .i64 0, .int .i64 0, .int .i64 0, .int .u64 0] := by unfold decV; rw [if_neg (by simp [hv])]
   have hq : ¬ x / 4294967296 = 0 := by omega
   clear E0 E1 E2 E3 E4
   go_enter Tryz.func54, Tryz.ntmps54
   go_wp2_with fail
   refine (refRight_any_ti (x % 8) (x / 8 % 4) (x / 32 % 64) (x / 2048 % 8192) (x / 16777216 % 256) _ hL0.out.2.2.1 hL0.out.2.2.2.1 (by omega)).mono ?_
   rw [HR.out]
   rintro e w1 ⟨rfl, hb⟩
   have hR1 := hR0.keep hb
   have hC1 := hC0.keep hb
   have hB1 : Below w.heap.size w w1 := hA.trans (hb.mono (by simp; omega))
   clear hR0 hC0 hA hb
   obtain ⟨c0, c1, c2, c3, c4⟩ := hC1
   have qR := hR1
   obtain ⟨⟨r0, r1, r2, r3, r4⟩, ⟨m0, m1, m2, m3, m4⟩, _⟩ := hR1
   go_wp2_with fail
   (try simp only [Exit.inBlock, Exit.then])
   obtain ⟨w7, hw7, hC7, hb7⟩ := st5_ex qR 0 0 0 0 0
   rw [← hw7]
   obtain ⟨t0, t1, t2, t3, t4⟩ := hC7
   refine bodyPost_ret (v := .tuple #[decV x, .bool (decB_ti x)]) ?_ rfl ⟨rfl, hB1.trans hb7⟩
   rw [results_cell_tmp rfl, hV, hv]
   clear hw7 hb7 qR c0 c1 c2 c3 c4 r0 r1 r2 r3 r4 m0 m1 m2 m3 m4
   go_simp
 ·have HR := lh (show rightB_ti (x % 8) (x / 8 % 4) (x / 32 % 64) (x / 2048 % 8192) (x / 16777216 % 256) = false by simpa using hr)
  clear hr
  have hv : decB_ti x = false := by unfold decB_ti; rw [E0, E1, E2, E3, E4, HR.out]; rfl
  have hV : decV x = .agg #[.int .i64 0, .int .i64 0, .int .i64 0, .int .i64 0, .int .u64 0] := by unfold decV; rw [if_neg (by simp [hv])]
  clear E0 E1 E2 E3 E4
  go_enter Tryz.func54, Tryz.ntmps54
  go_wp2_with fail
  refine (refRight_any_ti (x % 8) (x / 8 % 4) (x / 32 % 64) (x / 2048 % 8192) (x / 16777216 % 256) _ hL0.out.2.2.1 hL0.out.2.2.2.1 (by omega)).mono ?_
  rw [HR.out]
  rintro e w1 ⟨rfl, hb⟩
  have hR1 := hR0.keep hb
  have hC1 := hC0.keep hb
  have hB1 : Below w.heap.size w w1 := hA.trans (hb.mono (by simp; omega))
  clear hR0 hC0 hA hb
  obtain ⟨c0, c1, c2, c3, c4⟩ := hC1
  have qR := hR1
  obtain ⟨⟨r0, r1, r2, r3, r4⟩, ⟨m0, m1, m2, m3, m4⟩, _⟩ := hR1
  go_wp2_with fail
  (try simp only [Exit.inBlock, Exit.then])
  obtain ⟨w7, hw7, hC7, hb7⟩ := st5_ex qR 0 0 0 0 0
  rw [← hw7]
  obtain ⟨t0, t1, t2, t3, t4⟩ := hC7
  refine bodyPost_ret (v := .tuple #[decV x, .bool (decB_ti x)]) ?_ rfl ⟨rfl, hB1.trans hb7⟩
  rw [results_cell_tmp rfl, hV, hv]
  clear hw7 hb7 qR c0 c1 c2 c3 c4 r0 r1 r2 r3 r4 m0 m1 m2 m3 m4
  go_simp
open Go.RowKit
open Go.RowKit
theorem dec_yes_ti (x : Int) (w : World) (hw : Lw w) (h0 : 0 ≤ x) (h1 : x < 18446744073709551616) (h : decB_ti x = true) :
 Calls Tryz.prog 86 #[.int .u64 x] w fun e w' => e = .returned (.tuple #[.agg #[.int .i64 (getI x 0 3), .int .i64 (getI x 3 2), .int .i64 (getI x 5 6), .int .i64 (getI x 11 13), .int .u64 (getI x 24 8)], .bool true]) ∧ Below w.heap.size w w' := by
 have := decode_any x w hw h0 h1
 rwa [show decV x = .agg #[.int .i64 (getI x 0 3), .int .i64 (getI x 3 2), .int .i64 (getI x 5 6), .int .i64 (getI x 11 13), .int .u64 (getI x 24 8)] by unfold decV; rw [if_pos h], h] at this
theorem dec_no_ti (x : Int) (w : World) (hw : Lw w) (h0 : 0 ≤ x) (h1 : x < 18446744073709551616) (h : decB_ti x = false) :
 Calls Tryz.prog 86 #[.int .u64 x] w fun e w' => e = .returned (.tuple #[.agg #[.int .i64 0, .int .i64 0, .int .i64 0, .int .i64 0, .int .u64 0], .bool false]) ∧ Below w.heap.size w w' := by
 have := decode_any x w hw h0 h1
 rwa [show decV x = .agg #[.int .i64 0, .int .i64 0, .int .i64 0, .int .i64 0, .int .u64 0] by unfold decV; rw [if_neg (by simp [h])], h] at this
theorem word_parts (k c l m b : Int) (k0 : 0 ≤ k) (k1 : k < 8) (c0 : 0 ≤ c) (c1 : c < 4) (l0 : 0 ≤ l) (l1 : l < 64) (m0 : 0 ≤ m) (m1 : m < 8192) (b0 : 0 ≤ b) (b1 : b < 256) :
 getI (wordI k c l m b) 0 3 = k ∧ getI (wordI k c l m b) 3 2 = c ∧ getI (wordI k c l m b) 5 6 = l ∧ getI (wordI k c l m b) 11 13 = m ∧ getI (wordI k c l m b) 24 8 = b ∧ 0 ≤ wordI k c l m b ∧ wordI k c l m b < 4294967296 := by
 have hx : 0 ≤ wordI k c l m b ∧ wordI k c l m b < 4294967296 := by unfold wordI; omega
 obtain ⟨g0, g1, g2, g3, g4⟩ := gets (wordI k c l m b) hx.1
 rw [g0, g1, g2, g3, g4]
 refine ⟨?_, ?_, ?_, ?_, ?_, hx.1, hx.2⟩ <;> (unfold wordI; omega)
theorem right_bd {k c l m b : Int} (h : rightB_ti k c l m b = true) (b0 : 0 ≤ b) : 0 ≤ k ∧ k < 8 ∧ 0 ≤ c ∧ c < 4 ∧ 0 ≤ l ∧ l < 64 ∧ 0 ≤ m ∧ m < 8192 ∧ b < 256 := by
 have hr := rightB_t_ti h
 unfold RightP at hr; omega
end Go.Proofs.YtkdhdibjbabgfaaGreatDoor
end
