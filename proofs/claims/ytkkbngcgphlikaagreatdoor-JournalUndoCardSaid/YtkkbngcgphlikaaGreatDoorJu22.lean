/-
  Part of the proof of JournalUndo.
-/
import Derived.Test.YtkkbngcgphlikaaGreatDoorJu10
import Derived.Test.YtkkbngcgphlikaaGreatDoorJu6
import Derived.Test.YtkkbngcgphlikaaGreatDoorJu0
set_option maxRecDepth 10000
set_option maxHeartbeats 2000000
set_option linter.unusedVariables false
set_option linter.unusedSimpArgs false
namespace Go.Proofs.YtkkbngcgphlikaaGreatDoor
open Go.RowKit
def RightP (k c l m b : Int) : Prop :=
 ((k = 0 ∨ k = 3) ∧ c = 0 ∧ l = 0 ∧ m = 0 ∧ b = 0) ∨ (k = 1 ∧ l = 0 ∧ m = 0 ∧ ((c = 0 ∧ b < 256) ∨ (c = 1 ∧ b < 16) ∨ (c = 2 ∧ b < 4))) ∨
 (k = 2 ∧ c = 0 ∧ l = 0 ∧ b = 0 ∧ 1 ≤ m ∧ m ≤ 8191) ∨ (k = 4 ∧ c = 0 ∧ b = 0 ∧ 0 ≤ l ∧ l < 64 ∧ 0 ≤ m ∧ m ≤ 7)
instance (k c l m b : Int) : Decidable (RightP k c l m b) := by unfold RightP; infer_instance
def rightB_ti (k c l m b : Int) : Bool := decide (RightP k c l m b)
theorem rightB_t_ti {k c l m b : Int} (h : rightB_ti k c l m b = true) : RightP k c l m b := of_decide_eq_true h
theorem right_yes {k c l m b : Int} (h : RightP k c l m b) : rightB_ti k c l m b = true := decide_eq_true h
theorem right_no {k c l m b : Int} (h : ¬ RightP k c l m b) : rightB_ti k c l m b = false := decide_eq_false h
theorem right_o (k c l m b : Int) (w : World) (hk : k = 0 ∨ k = 3 ∨ k = 2 ∨ k = 4 ∨ (¬ k = 0 ∧ ¬ k = 1 ∧ ¬ k = 2 ∧ ¬ k = 3 ∧ ¬ k = 4)) :
 Calls Tryz.prog 142 #[.agg #[.int .i64 k, .int .i64 c, .int .i64 l, .int .i64 m, .int .u64 b]] w fun e w' => e = .returned (.bool (rightB_ti k c l m b)) ∧ Below w.heap.size w w' := by
 rcases hk with hk | hk | hk | hk | ⟨q0, q1, q2, q3, q4⟩
 all_goals
  go_enter Tryz.func142, Tryz.ntmps142
  go_wp2_with fail
  all_goals
   go_ret
   refine ⟨ret_b ?_, bZ _ _⟩
   first | (exact (right_yes (by unfold RightP; omega)).symm) | (exact (right_no (by unfold RightP; omega)).symm) | (simp [rightB_ti, RightP]; done) | (simp [rightB_ti, RightP, *]; done) | (simp [rightB_ti, RightP]; omega)
theorem right_1l (c l m b : Int) (w : World) (ht : Tab w) (hs : 5 < w.heap.size) (hl : ¬ l = 0) :
 Calls Tryz.prog 142 #[.agg #[.int .i64 1, .int .i64 c, .int .i64 l, .int .i64 m, .int .u64 b]] w fun e w' => e = .returned (.bool (rightB_ti 1 c l m b)) ∧ Below w.heap.size w w' := by
 have ht1 : Tab (w.alloc (.cells #[.int .i64 1, .int .i64 c, .int .i64 l, .int .i64 m, .int .u64 b] 109)).drew := tab_keep ht hs (bZ _ _).drew
 go_enter Tryz.func142, Tryz.ntmps142
 go_wp2_with fail
 refine wp_region_held_drew (S := (fun w' => w'.cell? ⟨w.heap.size, 0, none⟩ = some (.int .i64 1) ∧ w'.cell? ⟨w.heap.size, 1, none⟩ = some (.int .i64 c) ∧ w'.cell? ⟨w.heap.size, 2, none⟩ = some (.int .i64 l) ∧ w'.cell? ⟨w.heap.size, 3, none⟩ = some (.int .i64 m) ∧ w'.cell? ⟨w.heap.size, 4, none⟩ = some (.int .u64 b))) (by kernel_rfl) ?_ (fun hHeld => ?_)
 ·(try dsimp only)
  first | exact hHeld | (refine ⟨?_, ?_, ?_, ?_, ?_⟩ <;> simp [go_sem])
 refine takeQ 0 ?_
 refine takeQ 1 ?_
 refine takeQ 2 ?_
 refine takeQ 3 ?_
 refine takeQ 4 ?_
 refine takeQ 5 ?_
 refine takeQ 6 ?_
 refine takeQ 7 ?_
 refine idleQ 8 ?_
 refine idleQ 9 ?_
 refine idleQ 10 ?_
 refine idleQ 11 ?_
 refine takeQ 12 ?_
 refine takeQ 13 ?_
 refine idleQ 14 ?_
 refine idleQ 15 ?_
 refine idleQ 16 ?_
 refine idleQ 17 ?_
 refine idleQ 18 ?_
 refine idleQ 19 ?_
 refine idleQ 20 ?_
 refine idleQ 21 ?_
 refine takeQ 22 ?_
 refine takeQ 23 ?_
 refine wpAnyH_done (by kernel_rfl) ?_ _
 go_wp2_with fail
 go_ret
 refine ⟨ret_b ?_, (bZ _ _).drew⟩
 first | (exact (right_yes (by unfold RightP; omega)).symm) | (exact (right_no (by unfold RightP; omega)).symm) | (rw [right_yes (by unfold RightP; omega)]; first | (simp; done) | (simp [*]; done) | (simp; omega)) | (rw [right_no (by unfold RightP; omega)]; first | (simp; done) | (simp [*]; done) | (simp; omega))
theorem right_1m (c l m b : Int) (w : World) (ht : Tab w) (hs : 5 < w.heap.size) (hm : ¬ m = 0) :
 Calls Tryz.prog 142 #[.agg #[.int .i64 1, .int .i64 c, .int .i64 0, .int .i64 m, .int .u64 b]] w fun e w' => e = .returned (.bool (rightB_ti 1 c 0 m b)) ∧ Below w.heap.size w w' := by
 have ht1 : Tab (w.alloc (.cells #[.int .i64 1, .int .i64 c, .int .i64 0, .int .i64 m, .int .u64 b] 109)).drew := tab_keep ht hs (bZ _ _).drew
 go_enter Tryz.func142, Tryz.ntmps142
 go_wp2_with fail
 refine wp_region_held_drew (S := (fun w' => w'.cell? ⟨w.heap.size, 0, none⟩ = some (.int .i64 1) ∧ w'.cell? ⟨w.heap.size, 1, none⟩ = some (.int .i64 c) ∧ w'.cell? ⟨w.heap.size, 2, none⟩ = some (.int .i64 0) ∧ w'.cell? ⟨w.heap.size, 3, none⟩ = some (.int .i64 m) ∧ w'.cell? ⟨w.heap.size, 4, none⟩ = some (.int .u64 b))) (by kernel_rfl) ?_ (fun hHeld => ?_)
 ·(try dsimp only)
  first | exact hHeld | (refine ⟨?_, ?_, ?_, ?_, ?_⟩ <;> simp [go_sem])
 refine takeQ 0 ?_
 refine takeQ 1 ?_
 refine takeQ 2 ?_
 refine takeQ 3 ?_
 refine takeQ 4 ?_
 refine takeQ 5 ?_
 refine takeQ 6 ?_
 refine takeQ 7 ?_
 refine idleQ 8 ?_
 refine idleQ 9 ?_
 refine idleQ 10 ?_
 refine idleQ 11 ?_
 refine takeQ 12 ?_
 refine takeQ 13 ?_
 refine idleQ 14 ?_
 refine idleQ 15 ?_
 refine idleQ 16 ?_
 refine idleQ 17 ?_
 refine idleQ 18 ?_
 refine idleQ 19 ?_
 refine idleQ 20 ?_
 refine idleQ 21 ?_
 refine takeQ 22 ?_
 refine takeQ 23 ?_
 refine wpAnyH_done (by kernel_rfl) ?_ _
 go_wp2_with fail
 go_ret
 refine ⟨ret_b ?_, (bZ _ _).drew⟩
 first | (exact (right_yes (by unfold RightP; omega)).symm) | (exact (right_no (by unfold RightP; omega)).symm) | (rw [right_yes (by unfold RightP; omega)]; first | (simp; done) | (simp [*]; done) | (simp; omega)) | (rw [right_no (by unfold RightP; omega)]; first | (simp; done) | (simp [*]; done) | (simp; omega))
theorem right_1b (c l m b : Int) (w : World) (ht : Tab w) (hs : 5 < w.heap.size) (hc : 3 ≤ c ∨ c ≤ -1) :
 Calls Tryz.prog 142 #[.agg #[.int .i64 1, .int .i64 c, .int .i64 0, .int .i64 0, .int .u64 b]] w fun e w' => e = .returned (.bool (rightB_ti 1 c 0 0 b)) ∧ Below w.heap.size w w' := by
 have ht1 : Tab (w.alloc (.cells #[.int .i64 1, .int .i64 c, .int .i64 0, .int .i64 0, .int .u64 b] 109)).drew := tab_keep ht hs (bZ _ _).drew
 rcases hc with hc | hc
 all_goals
  go_enter Tryz.func142, Tryz.ntmps142
  go_wp2_with fail
  refine wp_region_held_drew (S := (fun w' => w'.cell? ⟨w.heap.size, 0, none⟩ = some (.int .i64 1) ∧ w'.cell? ⟨w.heap.size, 1, none⟩ = some (.int .i64 c) ∧ w'.cell? ⟨w.heap.size, 2, none⟩ = some (.int .i64 0) ∧ w'.cell? ⟨w.heap.size, 3, none⟩ = some (.int .i64 0) ∧ w'.cell? ⟨w.heap.size, 4, none⟩ = some (.int .u64 b))) (by kernel_rfl) ?_ (fun hHeld => ?_)
  ·(try dsimp only)
   first | exact hHeld | (refine ⟨?_, ?_, ?_, ?_, ?_⟩ <;> simp [go_sem])
  refine takeQ 0 ?_
  refine takeQ 1 ?_
  refine takeQ 2 ?_
  refine takeQ 3 ?_
  refine takeQ 4 ?_
  refine takeQ 5 ?_
  refine takeQ 6 ?_
  refine takeQ 7 ?_
  refine takeQ 8 ?_
  refine takeQ 9 ?_
  refine oneL 10 rfl (by kernel_rfl) (fun K hK => ?_)
  go_simp
  (go_at_call 170; (with_reducible first | refine (blk_3 c _ ht1 hc).mono ?_ | refine (blk_4 c _ ht1 hc).mono ?_); rintro e w8 ⟨rfl, rfl⟩)
  refine hK.out _ _ ?_ (fun hHeld2 => ?_)
  ·(try dsimp only)
   first | exact hHeld | (refine ⟨?_, ?_, ?_, ?_, ?_⟩ <;> simp [go_sem])
  clear hK K hHeld
  have hHeld := hHeld2
  clear hHeld2
  try simp only [Act.put,sA,sB,sC]
  refine takeQ 11 ?_
  refine takeQ 12 ?_
  refine takeQ 13 ?_
  refine idleQ 14 ?_
  refine idleQ 15 ?_
  refine idleQ 16 ?_
  refine idleQ 17 ?_
  refine idleQ 18 ?_
  refine idleQ 19 ?_
  refine idleQ 20 ?_
  refine idleQ 21 ?_
  refine takeQ 22 ?_
  refine takeQ 23 ?_
  refine wpAnyH_done (by kernel_rfl) ?_ _
  go_wp2_with fail
  go_ret
  refine ⟨ret_b ?_, (bZ _ _).drew⟩
  first | (exact (right_yes (by unfold RightP; omega)).symm) | (exact (right_no (by unfold RightP; omega)).symm) | (rw [right_yes (by unfold RightP; omega)]; first | (simp; done) | (simp [*]; done) | (simp; omega)) | (rw [right_no (by unfold RightP; omega)]; first | (simp; done) | (simp [*]; done) | (simp; omega))
theorem right_1c (c b : Int) (w : World) (ht : Tab w) (hs : 5 < w.heap.size) (hb0 : 0 ≤ b) (hc : c = 0 ∨ c = 1 ∨ c = 2) :
 Calls Tryz.prog 142 #[.agg #[.int .i64 1, .int .i64 c, .int .i64 0, .int .i64 0, .int .u64 b]] w fun e w' => e = .returned (.bool (rightB_ti 1 c 0 0 b)) ∧ Below w.heap.size w w' := by
 have ht1 : Tab (w.alloc (.cells #[.int .i64 1, .int .i64 c, .int .i64 0, .int .i64 0, .int .u64 b] 109)).drew := tab_keep ht hs (bZ _ _).drew
 obtain ⟨P, hP⟩ : ∃ P : Int, (c = 0 ∧ P = 256) ∨ (c = 1 ∧ P = 16) ∨ (c = 2 ∧ P = 4) := by
  rcases hc with h | h | h
  ·exact ⟨256, .inl ⟨h, rfl⟩⟩
  ·exact ⟨16, .inr (.inl ⟨h, rfl⟩)⟩
  exact ⟨4, .inr (.inr ⟨h, rfl⟩)⟩
 clear hc
 by_cases hq : b / P = 0
 all_goals rcases hP with ⟨hc, rfl⟩ | ⟨hc, rfl⟩ | ⟨hc, rfl⟩
 all_goals
  replace hc := lh hc
  go_enter Tryz.func142, Tryz.ntmps142
  go_wp2_with fail
  refine wp_region_held_drew (S := (fun w' => w'.cell? ⟨w.heap.size, 0, none⟩ = some (.int .i64 1) ∧ w'.cell? ⟨w.heap.size, 1, none⟩ = some (.int .i64 c) ∧ w'.cell? ⟨w.heap.size, 2, none⟩ = some (.int .i64 0) ∧ w'.cell? ⟨w.heap.size, 3, none⟩ = some (.int .i64 0) ∧ w'.cell? ⟨w.heap.size, 4, none⟩ = some (.int .u64 b))) (by kernel_rfl) ?_ (fun hHeld => ?_)
  ·(try dsimp only)
   first | exact hHeld | (refine ⟨?_, ?_, ?_, ?_, ?_⟩ <;> simp [go_sem])
  refine takeQ 0 ?_
  refine takeQ 1 ?_
  refine takeQ 2 ?_
  refine takeQ 3 ?_
  refine takeQ 4 ?_
  refine takeQ 5 ?_
  refine takeQ 6 ?_
  refine takeQ 7 ?_
  refine takeQ 8 ?_
  refine takeQ 9 ?_
  refine oneL 10 rfl (by kernel_rfl) (fun K hK => ?_)
  go_simp
  (go_at_call 170; (with_reducible first | refine (blk_0 c _ ht1 hc.out).mono ?_ | refine (blk_1 c _ ht1 hc.out).mono ?_ | refine (blk_2 c _ ht1 hc.out).mono ?_); rintro e w8 ⟨rfl, rfl⟩)
  refine hK.out _ _ ?_ (fun hHeld2 => ?_)
  ·(try dsimp only)
   first | exact hHeld | (refine ⟨?_, ?_, ?_, ?_, ?_⟩ <;> simp [go_sem])
  clear hK K hHeld
  have hHeld := hHeld2
  clear hHeld2
  try simp only [Act.put,sA,sB,sC]
  refine takeQ 11 ?_
  refine takeQ 12 ?_
  refine takeQ 13 ?_
  refine takeQ 14 ?_
  refine takeQ 15 ?_
  refine takeQ 16 ?_
  refine takeQ 17 ?_
  refine oneL 18 rfl (by kernel_rfl) (fun K hK => ?_)
  go_simp
  (go_at_call 171; (with_reducible first | refine (mny_0 c _ ht1 hc.out).mono ?_ | refine (mny_1 c _ ht1 hc.out).mono ?_ | refine (mny_2 c _ ht1 hc.out).mono ?_); rintro e w8 ⟨rfl, rfl⟩)
  refine hK.out _ _ ?_ (fun hHeld2 => ?_)
  ·(try dsimp only)
   first | exact hHeld | (refine ⟨?_, ?_, ?_, ?_, ?_⟩ <;> simp [go_sem])
  clear hK K hHeld
  have hHeld := hHeld2
  clear hHeld2
  try simp only [Act.put,sA,sB,sC]
  refine takeQ 19 ?_
  refine takeQ 20 ?_
  refine takeQ 21 ?_
  refine takeQ 22 ?_
  refine takeQ 23 ?_
  refine wpAnyH_done (by kernel_rfl) ?_ _
  go_wp2_with fail
  go_ret
  refine ⟨ret_b ?_, (bZ _ _).drew⟩
  first | rw [show (2 : Int) ^ min (IntKind.u64.wrap 8).toNat 64 = 256 by decide +kernel] | rw [show (2 : Int) ^ min (IntKind.u64.wrap 4).toNat 64 = 16 by decide +kernel] | rw [show (2 : Int) ^ min (IntKind.u64.wrap 2).toNat 64 = 4 by decide +kernel]
  replace hc := hc.out
  first | (exact (right_yes (by unfold RightP; omega)).symm) | (exact (right_no (by unfold RightP; omega)).symm) | (rw [right_yes (by unfold RightP; omega)]; first | (simp; done) | (simp [*]; done) | (simp; omega)) | (rw [right_no (by unfold RightP; omega)]; first | (simp; done) | (simp [*]; done) | (simp; omega))
theorem right_any_ti (k c l m b : Int) (w : World) (ht : Tab w) (hs : 5 < w.heap.size) (b0 : 0 ≤ b) :
 Calls Tryz.prog 142 #[.agg #[.int .i64 k, .int .i64 c, .int .i64 l, .int .i64 m, .int .u64 b]] w fun e w' => e = .returned (.bool (rightB_ti k c l m b)) ∧ Below w.heap.size w w' := by
 by_cases q1 : k = 1
 rotate_left
 ·exact right_o k c l m b w (by omega)
 subst q1
 by_cases hl : l = 0
 ·subst hl
  by_cases hm : m = 0
  ·subst hm
   by_cases h3 : 3 ≤ c ∨ c ≤ -1
   ·exact right_1b c 0 0 b w ht hs h3
   exact right_1c c b w ht hs b0 (by omega)
  exact right_1m c 0 m b w ht hs hm
 exact right_1l c l m b w ht hs hl
end Go.Proofs.YtkkbngcgphlikaaGreatDoor
