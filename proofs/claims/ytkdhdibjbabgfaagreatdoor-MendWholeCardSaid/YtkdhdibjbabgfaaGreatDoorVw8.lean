/-
  Part of the proof of MendWhole.
-/
import Derived.Test.YtkdhdibjbabgfaaGreatDoorVw28
import Derived.Test.YtkdhdibjbabgfaaGreatDoorVw5
import Derived.Test.YtkdhdibjbabgfaaGreatDoorVw6
import Derived.Test.YtkdhdibjbabgfaaGreatDoorVw9
import Derived.RangeFuncBound
import Derived.RangeFuncBox
import Derived.RangeFuncCalls
import Derived.RangeFuncFrom
import Derived.RangeFuncLeaves
import Derived.RangeFuncNested
import Derived.RangeFuncWrites
import Derived.Laws.EntriesVeiled
import Derived.Test.YtkdhdibjbabgfaaGreatDoorVw0
set_option maxRecDepth 10000
set_option maxHeartbeats 2000000
set_option linter.unusedVariables false
set_option linter.unusedSimpArgs false
section
namespace Go.Proofs.YtkdhdibjbabgfaaGreatDoor
open Go.RowKit Go.ChangeShapes Go.WideShapes Go.Deep
theorem KL.one (w : World) (a : Nat) (t : TypeId) : KL .u64 (w.alloc (.cells #[.int .u64 (a : Nat)] t)) (.slice (some ⟨w.heap.size, 0, none⟩) 1 1) [a] := by
 refine ⟨_, _, rfl, fun _ => ⟨_, 0, rfl, by simp, Nat.le_refl _, fun i hi => ?_⟩⟩
 simp only [List.length_singleton] at hi
 obtain rfl : i = 0 := by omega
 exact (row_cell (World.alloc_heap_new w _) 0).1
theorem firstW_lt (g a m : Nat) (ha : a < 1048576) (hm : m < 65536) : firstW g a m < 18446744073709551616 := by
 unfold firstW
 have : g % 65536 < 65536 := Nat.mod_lt _ (by decide)
 generalize g % 65536 = k at *
 omega
end Go.Proofs.YtkdhdibjbabgfaaGreatDoor
end
section
namespace Go.Proofs.YtkdhdibjbabgfaaGreatDoor
open Go.RowKit
def RightP (k c l m b : Int) : Prop :=
 ((k = 0 ∨ k = 3) ∧ c = 0 ∧ l = 0 ∧ m = 0 ∧ b = 0) ∨ (k = 1 ∧ l = 0 ∧ m = 0 ∧ ((c = 0 ∧ b < 256) ∨ (c = 1 ∧ b < 16) ∨ (c = 2 ∧ b < 4))) ∨
 (k = 2 ∧ c = 0 ∧ l = 0 ∧ b = 0 ∧ 1 ≤ m ∧ m ≤ 8191) ∨ (k = 4 ∧ c = 0 ∧ b = 0 ∧ 0 ≤ l ∧ l < 64 ∧ 0 ≤ m ∧ m ≤ 7)
instance (k c l m b : Int) : Decidable (RightP k c l m b) := by unfold RightP; infer_instance
def rightB_ti (k c l m b : Int) : Bool := decide (RightP k c l m b)
theorem rightB_t_ti {k c l m b : Int} (h : rightB_ti k c l m b = true) : RightP k c l m b := of_decide_eq_true h
theorem right_yes {k c l m b : Int} (h : RightP k c l m b) : rightB_ti k c l m b = true := decide_eq_true h
theorem right_no {k c l m b : Int} (h : ¬ RightP k c l m b) : rightB_ti k c l m b = false := decide_eq_false h
theorem right_0 (k c l m b : Int) (w : World) (hk : k = 0) :
 Calls Tryz.prog 116 #[.agg #[.int .i64 k, .int .i64 c, .int .i64 l, .int .i64 m, .int .u64 b]] w fun e w' => e = .returned (.bool (rightB_ti k c l m b)) ∧ Below w.heap.size w w' := by
 go_enter Tryz.func116, Tryz.ntmps116
 go_wp2_with fail
 all_goals
  go_ret
  refine ⟨ret_b ?_, bZ _ _⟩
  first | (exact (right_yes (by unfold RightP; omega)).symm) | (exact (right_no (by unfold RightP; omega)).symm) | (simp [rightB_ti, RightP]; done) | (simp [rightB_ti, RightP, *]; done) | (simp [rightB_ti, RightP]; omega)
theorem right_3 (k c l m b : Int) (w : World) (hk : k = 3) :
 Calls Tryz.prog 116 #[.agg #[.int .i64 k, .int .i64 c, .int .i64 l, .int .i64 m, .int .u64 b]] w fun e w' => e = .returned (.bool (rightB_ti k c l m b)) ∧ Below w.heap.size w w' := by
 go_enter Tryz.func116, Tryz.ntmps116
 go_wp2_with fail
 all_goals
  go_ret
  refine ⟨ret_b ?_, bZ _ _⟩
  first | (exact (right_yes (by unfold RightP; omega)).symm) | (exact (right_no (by unfold RightP; omega)).symm) | (simp [rightB_ti, RightP]; done) | (simp [rightB_ti, RightP, *]; done) | (simp [rightB_ti, RightP]; omega)
theorem right_2 (k c l m b : Int) (w : World) (hk : k = 2) :
 Calls Tryz.prog 116 #[.agg #[.int .i64 k, .int .i64 c, .int .i64 l, .int .i64 m, .int .u64 b]] w fun e w' => e = .returned (.bool (rightB_ti k c l m b)) ∧ Below w.heap.size w w' := by
 go_enter Tryz.func116, Tryz.ntmps116
 go_wp2_with fail
 all_goals
  go_ret
  refine ⟨ret_b ?_, bZ _ _⟩
  first | (exact (right_yes (by unfold RightP; omega)).symm) | (exact (right_no (by unfold RightP; omega)).symm) | (simp [rightB_ti, RightP]; done) | (simp [rightB_ti, RightP, *]; done) | (simp [rightB_ti, RightP]; omega)
theorem right_4 (k c l m b : Int) (w : World) (hk : k = 4) :
 Calls Tryz.prog 116 #[.agg #[.int .i64 k, .int .i64 c, .int .i64 l, .int .i64 m, .int .u64 b]] w fun e w' => e = .returned (.bool (rightB_ti k c l m b)) ∧ Below w.heap.size w w' := by
 go_enter Tryz.func116, Tryz.ntmps116
 go_wp2_with fail
 all_goals
  go_ret
  refine ⟨ret_b ?_, bZ _ _⟩
  first | (exact (right_yes (by unfold RightP; omega)).symm) | (exact (right_no (by unfold RightP; omega)).symm) | (simp [rightB_ti, RightP]; done) | (simp [rightB_ti, RightP, *]; done) | (simp [rightB_ti, RightP]; omega)
theorem right_x (k c l m b : Int) (w : World) (q0 : ¬ k = 0) (q1 : ¬ k = 1) (q2 : ¬ k = 2) (q3 : ¬ k = 3) (q4 : ¬ k = 4) :
 Calls Tryz.prog 116 #[.agg #[.int .i64 k, .int .i64 c, .int .i64 l, .int .i64 m, .int .u64 b]] w fun e w' => e = .returned (.bool (rightB_ti k c l m b)) ∧ Below w.heap.size w w' := by
 go_enter Tryz.func116, Tryz.ntmps116
 go_wp2_with fail
 all_goals
  go_ret
  refine ⟨ret_b ?_, bZ _ _⟩
  first | (exact (right_yes (by unfold RightP; omega)).symm) | (exact (right_no (by unfold RightP; omega)).symm) | (simp [rightB_ti, RightP]; done) | (simp [rightB_ti, RightP, *]; done) | (simp [rightB_ti, RightP]; omega)
theorem right_1l (c l m b : Int) (w : World) (ht : Tab w) (hs : 5 < w.heap.size) (hl : ¬ l = 0) :
 Calls Tryz.prog 116 #[.agg #[.int .i64 1, .int .i64 c, .int .i64 l, .int .i64 m, .int .u64 b]] w fun e w' => e = .returned (.bool (rightB_ti 1 c l m b)) ∧ Below w.heap.size w w' := by
 have ht1 : Tab (w.alloc (.cells #[.int .i64 1, .int .i64 c, .int .i64 l, .int .i64 m, .int .u64 b] 96)).drew := tab_keep ht hs (bZ _ _).drew
 go_enter Tryz.func116, Tryz.ntmps116
 go_wp2_with fail
 refine wp_region_held_drew (S := (fun w' => w'.cell? ⟨w.heap.size, 0, none⟩ = some (.int .i64 1) ∧ w'.cell? ⟨w.heap.size, 1, none⟩ = some (.int .i64 c) ∧ w'.cell? ⟨w.heap.size, 2, none⟩ = some (.int .i64 l) ∧ w'.cell? ⟨w.heap.size, 3, none⟩ = some (.int .i64 m) ∧ w'.cell? ⟨w.heap.size, 4, none⟩ = some (.int .u64 b))) (by kernel_rfl) ?_ (fun hHeld => ?_)
 ·(try dsimp only)
  first | exact hHeld | (refine ⟨?_, ?_, ?_, ?_, ?_⟩ <;> simp [go_sem])
 refine takeQ 0 ?_
 refine takeQ 1 ?_
 refine takeQ 2 ?_
 refine takeQ 3 ?_
 refine takeQ 4 ?_
 refine takeQ 5 ?_
 refine takeQ 6 ?_
 refine takeQ 7 ?_
 refine idleQ 8 ?_
 refine idleQ 9 ?_
 refine idleQ 10 ?_
 refine idleQ 11 ?_
 refine takeQ 12 ?_
 refine takeQ 13 ?_
 refine idleQ 14 ?_
 refine idleQ 15 ?_
 refine idleQ 16 ?_
 refine idleQ 17 ?_
 refine idleQ 18 ?_
 refine idleQ 19 ?_
 refine idleQ 20 ?_
 refine idleQ 21 ?_
 refine takeQ 22 ?_
 refine takeQ 23 ?_
 refine wpAnyH_done (by kernel_rfl) ?_ _
 go_wp2_with fail
 go_ret
 refine ⟨ret_b ?_, (bZ _ _).drew⟩
 first | (exact (right_yes (by unfold RightP; omega)).symm) | (exact (right_no (by unfold RightP; omega)).symm) | (rw [right_yes (by unfold RightP; omega)]; first | (simp; done) | (simp [*]; done) | (simp; omega)) | (rw [right_no (by unfold RightP; omega)]; first | (simp; done) | (simp [*]; done) | (simp; omega))
theorem right_1m (c l m b : Int) (w : World) (ht : Tab w) (hs : 5 < w.heap.size) (hm : ¬ m = 0) :
 Calls Tryz.prog 116 #[.agg #[.int .i64 1, .int .i64 c, .int .i64 0, .int .i64 m, .int .u64 b]] w fun e w' => e = .returned (.bool (rightB_ti 1 c 0 m b)) ∧ Below w.heap.size w w' := by
 have ht1 : Tab (w.alloc (.cells #[.int .i64 1, .int .i64 c, .int .i64 0, .int .i64 m, .int .u64 b] 96)).drew := tab_keep ht hs (bZ _ _).drew
 go_enter Tryz.func116, Tryz.ntmps116
 go_wp2_with fail
 refine wp_region_held_drew (S := (fun w' => w'.cell? ⟨w.heap.size, 0, none⟩ = some (.int .i64 1) ∧ w'.cell? ⟨w.heap.size, 1, none⟩ = some (.int .i64 c) ∧ w'.cell? ⟨w.heap.size, 2, none⟩ = some (.int .i64 0) ∧ w'.cell? ⟨w.heap.size, 3, none⟩ = some (.int .i64 m) ∧ w'.cell? ⟨w.heap.size, 4, none⟩ = some (.int .u64 b))) (by kernel_rfl) ?_ (fun hHeld => ?_)
 ·(try dsimp only)
  first | exact hHeld | (refine ⟨?_, ?_, ?_, ?_, ?_⟩ <;> simp [go_sem])
 refine takeQ 0 ?_
 refine takeQ 1 ?_
 refine takeQ 2 ?_
 refine takeQ 3 ?_
 refine takeQ 4 ?_
 refine takeQ 5 ?_
 refine takeQ 6 ?_
 refine takeQ 7 ?_
 refine idleQ 8 ?_
 refine idleQ 9 ?_
 refine idleQ 10 ?_
 refine idleQ 11 ?_
 refine takeQ 12 ?_
 refine takeQ 13 ?_
 refine idleQ 14 ?_
 refine idleQ 15 ?_
 refine idleQ 16 ?_
 refine idleQ 17 ?_
 refine idleQ 18 ?_
 refine idleQ 19 ?_
 refine idleQ 20 ?_
 refine idleQ 21 ?_
 refine takeQ 22 ?_
 refine takeQ 23 ?_
 refine wpAnyH_done (by kernel_rfl) ?_ _
 go_wp2_with fail
 go_ret
 refine ⟨ret_b ?_, (bZ _ _).drew⟩
 first | (exact (right_yes (by unfold RightP; omega)).symm) | (exact (right_no (by unfold RightP; omega)).symm) | (rw [right_yes (by unfold RightP; omega)]; first | (simp; done) | (simp [*]; done) | (simp; omega)) | (rw [right_no (by unfold RightP; omega)]; first | (simp; done) | (simp [*]; done) | (simp; omega))
theorem right_1b (c l m b : Int) (w : World) (ht : Tab w) (hs : 5 < w.heap.size) (hc : 3 ≤ c) :
 Calls Tryz.prog 116 #[.agg #[.int .i64 1, .int .i64 c, .int .i64 0, .int .i64 0, .int .u64 b]] w fun e w' => e = .returned (.bool (rightB_ti 1 c 0 0 b)) ∧ Below w.heap.size w w' := by
 have ht1 : Tab (w.alloc (.cells #[.int .i64 1, .int .i64 c, .int .i64 0, .int .i64 0, .int .u64 b] 96)).drew := tab_keep ht hs (bZ _ _).drew
 go_enter Tryz.func116, Tryz.ntmps116
 go_wp2_with fail
 refine wp_region_held_drew (S := (fun w' => w'.cell? ⟨w.heap.size, 0, none⟩ = some (.int .i64 1) ∧ w'.cell? ⟨w.heap.size, 1, none⟩ = some (.int .i64 c) ∧ w'.cell? ⟨w.heap.size, 2, none⟩ = some (.int .i64 0) ∧ w'.cell? ⟨w.heap.size, 3, none⟩ = some (.int .i64 0) ∧ w'.cell? ⟨w.heap.size, 4, none⟩ = some (.int .u64 b))) (by kernel_rfl) ?_ (fun hHeld => ?_)
 ·(try dsimp only)
  first | exact hHeld | (refine ⟨?_, ?_, ?_, ?_, ?_⟩ <;> simp [go_sem])
 refine takeQ 0 ?_
 refine takeQ 1 ?_
 refine takeQ 2 ?_
 refine takeQ 3 ?_
 refine takeQ 4 ?_
 refine takeQ 5 ?_
 refine takeQ 6 ?_
 refine takeQ 7 ?_
 refine takeQ 8 ?_
 refine takeQ 9 ?_
 refine oneL 10 rfl (by kernel_rfl) (fun K hK => ?_)
 go_simp
 (go_at_call 134; (with_reducible refine (blk_3 c _ ht1 hc).mono ?_); rintro e w8 ⟨rfl, rfl⟩)
 refine hK.out _ _ ?_ (fun hHeld2 => ?_)
 ·(try dsimp only)
  first | exact hHeld | (refine ⟨?_, ?_, ?_, ?_, ?_⟩ <;> simp [go_sem])
 clear hK K hHeld
 have hHeld := hHeld2
 clear hHeld2
 try simp only [Act.put,sA,sB,sC]
 refine takeQ 11 ?_
 refine takeQ 12 ?_
 refine takeQ 13 ?_
 refine idleQ 14 ?_
 refine idleQ 15 ?_
 refine idleQ 16 ?_
 refine idleQ 17 ?_
 refine idleQ 18 ?_
 refine idleQ 19 ?_
 refine idleQ 20 ?_
 refine idleQ 21 ?_
 refine takeQ 22 ?_
 refine takeQ 23 ?_
 refine wpAnyH_done (by kernel_rfl) ?_ _
 go_wp2_with fail
 go_ret
 refine ⟨ret_b ?_, (bZ _ _).drew⟩
 first | (exact (right_yes (by unfold RightP; omega)).symm) | (exact (right_no (by unfold RightP; omega)).symm) | (rw [right_yes (by unfold RightP; omega)]; first | (simp; done) | (simp [*]; done) | (simp; omega)) | (rw [right_no (by unfold RightP; omega)]; first | (simp; done) | (simp [*]; done) | (simp; omega))
theorem right_1s (c l m b : Int) (w : World) (ht : Tab w) (hs : 5 < w.heap.size) (hc : c ≤ -1) :
 Calls Tryz.prog 116 #[.agg #[.int .i64 1, .int .i64 c, .int .i64 0, .int .i64 0, .int .u64 b]] w fun e w' => e = .returned (.bool (rightB_ti 1 c 0 0 b)) ∧ Below w.heap.size w w' := by
 have ht1 : Tab (w.alloc (.cells #[.int .i64 1, .int .i64 c, .int .i64 0, .int .i64 0, .int .u64 b] 96)).drew := tab_keep ht hs (bZ _ _).drew
 go_enter Tryz.func116, Tryz.ntmps116
 go_wp2_with fail
 refine wp_region_held_drew (S := (fun w' => w'.cell? ⟨w.heap.size, 0, none⟩ = some (.int .i64 1) ∧ w'.cell? ⟨w.heap.size, 1, none⟩ = some (.int .i64 c) ∧ w'.cell? ⟨w.heap.size, 2, none⟩ = some (.int .i64 0) ∧ w'.cell? ⟨w.heap.size, 3, none⟩ = some (.int .i64 0) ∧ w'.cell? ⟨w.heap.size, 4, none⟩ = some (.int .u64 b))) (by kernel_rfl) ?_ (fun hHeld => ?_)
 ·(try dsimp only)
  first | exact hHeld | (refine ⟨?_, ?_, ?_, ?_, ?_⟩ <;> simp [go_sem])
 refine takeQ 0 ?_
 refine takeQ 1 ?_
 refine takeQ 2 ?_
 refine takeQ 3 ?_
 refine takeQ 4 ?_
 refine takeQ 5 ?_
 refine takeQ 6 ?_
 refine takeQ 7 ?_
 refine takeQ 8 ?_
 refine takeQ 9 ?_
 refine oneL 10 rfl (by kernel_rfl) (fun K hK => ?_)
 go_simp
 (go_at_call 134; (with_reducible refine (blk_4 c _ ht1 hc).mono ?_); rintro e w8 ⟨rfl, rfl⟩)
 refine hK.out _ _ ?_ (fun hHeld2 => ?_)
 ·(try dsimp only)
  first | exact hHeld | (refine ⟨?_, ?_, ?_, ?_, ?_⟩ <;> simp [go_sem])
 clear hK K hHeld
 have hHeld := hHeld2
 clear hHeld2
 try simp only [Act.put,sA,sB,sC]
 refine takeQ 11 ?_
 refine takeQ 12 ?_
 refine takeQ 13 ?_
 refine idleQ 14 ?_
 refine idleQ 15 ?_
 refine idleQ 16 ?_
 refine idleQ 17 ?_
 refine idleQ 18 ?_
 refine idleQ 19 ?_
 refine idleQ 20 ?_
 refine idleQ 21 ?_
 refine takeQ 22 ?_
 refine takeQ 23 ?_
 refine wpAnyH_done (by kernel_rfl) ?_ _
 go_wp2_with fail
 go_ret
 refine ⟨ret_b ?_, (bZ _ _).drew⟩
 first | (exact (right_yes (by unfold RightP; omega)).symm) | (exact (right_no (by unfold RightP; omega)).symm) | (rw [right_yes (by unfold RightP; omega)]; first | (simp; done) | (simp [*]; done) | (simp; omega)) | (rw [right_no (by unfold RightP; omega)]; first | (simp; done) | (simp [*]; done) | (simp; omega))
theorem right_10y (c l m b : Int) (w : World) (ht : Tab w) (hs : 5 < w.heap.size) (hb0 : 0 ≤ b) (hb : b < 256) :
 Calls Tryz.prog 116 #[.agg #[.int .i64 1, .int .i64 0, .int .i64 0, .int .i64 0, .int .u64 b]] w fun e w' => e = .returned (.bool (rightB_ti 1 0 0 0 b)) ∧ Below w.heap.size w w' := by
 have ht1 : Tab (w.alloc (.cells #[.int .i64 1, .int .i64 0, .int .i64 0, .int .i64 0, .int .u64 b] 96)).drew := tab_keep ht hs (bZ _ _).drew
 have hq : b / 256 = 0 := by omega
 go_enter Tryz.func116, Tryz.ntmps116
 go_wp2_with fail
 refine wp_region_held_drew (S := (fun w' => w'.cell? ⟨w.heap.size, 0, none⟩ = some (.int .i64 1) ∧ w'.cell? ⟨w.heap.size, 1, none⟩ = some (.int .i64 0) ∧ w'.cell? ⟨w.heap.size, 2, none⟩ = some (.int .i64 0) ∧ w'.cell? ⟨w.heap.size, 3, none⟩ = some (.int .i64 0) ∧ w'.cell? ⟨w.heap.size, 4, none⟩ = some (.int .u64 b))) (by kernel_rfl) ?_ (fun hHeld => ?_)
 ·(try dsimp only)
  first | exact hHeld | (refine ⟨?_, ?_, ?_, ?_, ?_⟩ <;> simp [go_sem])
 refine takeQ 0 ?_
 refine takeQ 1 ?_
 refine takeQ 2 ?_
 refine takeQ 3 ?_
 refine takeQ 4 ?_
 refine takeQ 5 ?_
 refine takeQ 6 ?_
 refine takeQ 7 ?_
 refine takeQ 8 ?_
 refine takeQ 9 ?_
 refine oneL 10 rfl (by kernel_rfl) (fun K hK => ?_)
 go_simp
 (go_at_call 134; (with_reducible refine (blk_0 0 _ ht1 rfl).mono ?_); rintro e w8 ⟨rfl, rfl⟩)
 refine hK.out _ _ ?_ (fun hHeld2 => ?_)
 ·(try dsimp only)
  first | exact hHeld | (refine ⟨?_, ?_, ?_, ?_, ?_⟩ <;> simp [go_sem])
 clear hK K hHeld
 have hHeld := hHeld2
 clear hHeld2
 try simp only [Act.put,sA,sB,sC]
 refine takeQ 11 ?_
 refine takeQ 12 ?_
 refine takeQ 13 ?_
 refine takeQ 14 ?_
 refine takeQ 15 ?_
 refine takeQ 16 ?_
 refine takeQ 17 ?_
 refine oneL 18 rfl (by kernel_rfl) (fun K hK => ?_)
 go_simp
 (go_at_call 135; (with_reducible refine (mny_0 0 _ ht1 rfl).mono ?_); rintro e w8 ⟨rfl, rfl⟩)
 refine hK.out _ _ ?_ (fun hHeld2 => ?_)
 ·(try dsimp only)
  first | exact hHeld | (refine ⟨?_, ?_, ?_, ?_, ?_⟩ <;> simp [go_sem])
 clear hK K hHeld
 have hHeld := hHeld2
 clear hHeld2
 try simp only [Act.put,sA,sB,sC]
 refine takeQ 19 ?_
 refine takeQ 20 ?_
 refine takeQ 21 ?_
 refine takeQ 22 ?_
 refine takeQ 23 ?_
 refine wpAnyH_done (by kernel_rfl) ?_ _
 go_wp2_with fail
 go_ret
 refine ⟨ret_b ?_, (bZ _ _).drew⟩
 rw [show (2 : Int) ^ min (IntKind.u64.wrap 8).toNat 64 = 256 by decide +kernel]
 first | (exact (right_yes (by unfold RightP; omega)).symm) | (exact (right_no (by unfold RightP; omega)).symm) | (rw [right_yes (by unfold RightP; omega)]; first | (simp; done) | (simp [*]; done) | (simp; omega)) | (rw [right_no (by unfold RightP; omega)]; first | (simp; done) | (simp [*]; done) | (simp; omega))
theorem right_10n (c l m b : Int) (w : World) (ht : Tab w) (hs : 5 < w.heap.size) (hb0 : 0 ≤ b) (hb : 256 ≤ b) :
 Calls Tryz.prog 116 #[.agg #[.int .i64 1, .int .i64 0, .int .i64 0, .int .i64 0, .int .u64 b]] w fun e w' => e = .returned (.bool (rightB_ti 1 0 0 0 b)) ∧ Below w.heap.size w w' := by
 have ht1 : Tab (w.alloc (.cells #[.int .i64 1, .int .i64 0, .int .i64 0, .int .i64 0, .int .u64 b] 96)).drew := tab_keep ht hs (bZ _ _).drew
 have hq : ¬ b / 256 = 0 := by omega
 go_enter Tryz.func116, Tryz.ntmps116
 go_wp2_with fail
 refine wp_region_held_drew (S := (fun w' => w'.cell? ⟨w.heap.size, 0, none⟩ = some (.int .i64 1) ∧ w'.cell? ⟨w.heap.size, 1, none⟩ = some (.int .i64 0) ∧ w'.cell? ⟨w.heap.size, 2, none⟩ = some (.int .i64 0) ∧ w'.cell? ⟨w.heap.size, 3, none⟩ = some (.int .i64 0) ∧ w'.cell? ⟨w.heap.size, 4, none⟩ = some (.int .u64 b))) (by kernel_rfl) ?_ (fun hHeld => ?_)
 ·(try dsimp only)
  first | exact hHeld | (refine ⟨?_, ?_, ?_, ?_, ?_⟩ <;> simp [go_sem])
 refine takeQ 0 ?_
 refine takeQ 1 ?_
 refine takeQ 2 ?_
 refine takeQ 3 ?_
 refine takeQ 4 ?_
 refine takeQ 5 ?_
 refine takeQ 6 ?_
 refine takeQ 7 ?_
 refine takeQ 8 ?_
 refine takeQ 9 ?_
 refine oneL 10 rfl (by kernel_rfl) (fun K hK => ?_)
 go_simp
 (go_at_call 134; (with_reducible refine (blk_0 0 _ ht1 rfl).mono ?_); rintro e w8 ⟨rfl, rfl⟩)
 refine hK.out _ _ ?_ (fun hHeld2 => ?_)
 ·(try dsimp only)
  first | exact hHeld | (refine ⟨?_, ?_, ?_, ?_, ?_⟩ <;> simp [go_sem])
 clear hK K hHeld
 have hHeld := hHeld2
 clear hHeld2
 try simp only [Act.put,sA,sB,sC]
 refine takeQ 11 ?_
 refine takeQ 12 ?_
 refine takeQ 13 ?_
 refine takeQ 14 ?_
 refine takeQ 15 ?_
 refine takeQ 16 ?_
 refine takeQ 17 ?_
 refine oneL 18 rfl (by kernel_rfl) (fun K hK => ?_)
 go_simp
 (go_at_call 135; (with_reducible refine (mny_0 0 _ ht1 rfl).mono ?_); rintro e w8 ⟨rfl, rfl⟩)
 refine hK.out _ _ ?_ (fun hHeld2 => ?_)
 ·(try dsimp only)
  first | exact hHeld | (refine ⟨?_, ?_, ?_, ?_, ?_⟩ <;> simp [go_sem])
 clear hK K hHeld
 have hHeld := hHeld2
 clear hHeld2
 try simp only [Act.put,sA,sB,sC]
 refine takeQ 19 ?_
 refine takeQ 20 ?_
 refine takeQ 21 ?_
 refine takeQ 22 ?_
 refine takeQ 23 ?_
 refine wpAnyH_done (by kernel_rfl) ?_ _
 go_wp2_with fail
 go_ret
 refine ⟨ret_b ?_, (bZ _ _).drew⟩
 rw [show (2 : Int) ^ min (IntKind.u64.wrap 8).toNat 64 = 256 by decide +kernel]
 first | (exact (right_yes (by unfold RightP; omega)).symm) | (exact (right_no (by unfold RightP; omega)).symm) | (rw [right_yes (by unfold RightP; omega)]; first | (simp; done) | (simp [*]; done) | (simp; omega)) | (rw [right_no (by unfold RightP; omega)]; first | (simp; done) | (simp [*]; done) | (simp; omega))
theorem right_11y (c l m b : Int) (w : World) (ht : Tab w) (hs : 5 < w.heap.size) (hb0 : 0 ≤ b) (hb : b < 16) :
 Calls Tryz.prog 116 #[.agg #[.int .i64 1, .int .i64 1, .int .i64 0, .int .i64 0, .int .u64 b]] w fun e w' => e = .returned (.bool (rightB_ti 1 1 0 0 b)) ∧ Below w.heap.size w w' := by
 have ht1 : Tab (w.alloc (.cells #[.int .i64 1, .int .i64 1, .int .i64 0, .int .i64 0, .int .u64 b] 96)).drew := tab_keep ht hs (bZ _ _).drew
 have hq : b / 16 = 0 := by omega
 go_enter Tryz.func116, Tryz.ntmps116
 go_wp2_with fail
 refine wp_region_held_drew (S := (fun w' => w'.cell? ⟨w.heap.size, 0, none⟩ = some (.int .i64 1) ∧ w'.cell? ⟨w.heap.size, 1, none⟩ = some (.int .i64 1) ∧ w'.cell? ⟨w.heap.size, 2, none⟩ = some (.int .i64 0) ∧ w'.cell? ⟨w.heap.size, 3, none⟩ = some (.int .i64 0) ∧ w'.cell? ⟨w.heap.size, 4, none⟩ = some (.int .u64 b))) (by kernel_rfl) ?_ (fun hHeld => ?_)
 ·(try dsimp only)
  first | exact hHeld | (refine ⟨?_, ?_, ?_, ?_, ?_⟩ <;> simp [go_sem])
 refine takeQ 0 ?_
 refine takeQ 1 ?_
 refine takeQ 2 ?_
 refine takeQ 3 ?_
 refine takeQ 4 ?_
 refine takeQ 5 ?_
 refine takeQ 6 ?_
 refine takeQ 7 ?_
 refine takeQ 8 ?_
 refine takeQ 9 ?_
 refine oneL 10 rfl (by kernel_rfl) (fun K hK => ?_)
 go_simp
 (go_at_call 134; (with_reducible refine (blk_1 1 _ ht1 rfl).mono ?_); rintro e w8 ⟨rfl, rfl⟩)
 refine hK.out _ _ ?_ (fun hHeld2 => ?_)
 ·(try dsimp only)
  first | exact hHeld | (refine ⟨?_, ?_, ?_, ?_, ?_⟩ <;> simp [go_sem])
 clear hK K hHeld
 have hHeld := hHeld2
 clear hHeld2
 try simp only [Act.put,sA,sB,sC]
 refine takeQ 11 ?_
 refine takeQ 12 ?_
 refine takeQ 13 ?_
 refine takeQ 14 ?_
 refine takeQ 15 ?_
 refine takeQ 16 ?_
 refine takeQ 17 ?_
 refine oneL 18 rfl (by kernel_rfl) (fun K hK => ?_)
 go_simp
 (go_at_call 135; (with_reducible refine (mny_1 1 _ ht1 rfl).mono ?_); rintro e w8 ⟨rfl, rfl⟩)
 refine hK.out _ _ ?_ (fun hHeld2 => ?_)
 ·(try dsimp only)
  first | exact hHeld | (refine ⟨?_, ?_, ?_, ?_, ?_⟩ <;> simp [go_sem])
 clear hK K hHeld
 have hHeld := hHeld2
 clear hHeld2
 try simp only [Act.put,sA,sB,sC]
 refine takeQ 19 ?_
 refine takeQ 20 ?_
 refine takeQ 21 ?_
 refine takeQ 22 ?_
 refine takeQ 23 ?_
 refine wpAnyH_done (by kernel_rfl) ?_ _
 go_wp2_with fail
 go_ret
 refine ⟨ret_b ?_, (bZ _ _).drew⟩
 rw [show (2 : Int) ^ min (IntKind.u64.wrap 4).toNat 64 = 16 by decide +kernel]
 first | (exact (right_yes (by unfold RightP; omega)).symm) | (exact (right_no (by unfold RightP; omega)).symm) | (rw [right_yes (by unfold RightP; omega)]; first | (simp; done) | (simp [*]; done) | (simp; omega)) | (rw [right_no (by unfold RightP; omega)]; first | (simp; done) | (simp [*]; done) | (simp; omega))
theorem right_11n (c l m b : Int) (w : World) (ht : Tab w) (hs : 5 < w.heap.size) (hb0 : 0 ≤ b) (hb : 16 ≤ b) :
 Calls Tryz.prog 116 #[.agg #[.int .i64 1, .int .i64 1, .int .i64 0, .int .i64 0, .int .u64 b]] w fun e w' => e = .returned (.bool (rightB_ti 1 1 0 0 b)) ∧ Below w.heap.size w w' := by
 have ht1 : Tab (w.alloc (.cells #[.int .i64 1, .int .i64 1, .int .i64 0, .int .i64 0, .int .u64 b] 96)).drew := tab_keep ht hs (bZ _ _).drew
 have hq : ¬ b / 16 = 0 := by omega
 go_enter Tryz.func116, Tryz.ntmps116
 go_wp2_with fail
 refine wp_region_held_drew (S := (fun w' => w'.cell? ⟨w.heap.size, 0, none⟩ = some (.int .i64 1) ∧ w'.cell? ⟨w.heap.size, 1, none⟩ = some (.int .i64 1) ∧ w'.cell? ⟨w.heap.size, 2, none⟩ = some (.int .i64 0) ∧ w'.cell? ⟨w.heap.size, 3, none⟩ = some (.int .i64 0) ∧ w'.cell? ⟨w.heap.size, 4, none⟩ = some (.int .u64 b))) (by kernel_rfl) ?_ (fun hHeld => ?_)
 ·(try dsimp only)
  first | exact hHeld | (refine ⟨?_, ?_, ?_, ?_, ?_⟩ <;> simp [go_sem])
 refine takeQ 0 ?_
 refine takeQ 1 ?_
 refine takeQ 2 ?_
 refine takeQ 3 ?_
 refine takeQ 4 ?_
 refine takeQ 5 ?_
 refine takeQ 6 ?_
 refine takeQ 7 ?_
 refine takeQ 8 ?_
 refine takeQ 9 ?_
 refine oneL 10 rfl (by kernel_rfl) (fun K hK => ?_)
 go_simp
 (go_at_call 134; (with_reducible refine (blk_1 1 _ ht1 rfl).mono ?_); rintro e w8 ⟨rfl, rfl⟩)
 refine hK.out _ _ ?_ (fun hHeld2 => ?_)
 ·(try dsimp only)
  first | exact hHeld | (refine ⟨?_, ?_, ?_, ?_, ?_⟩ <;> simp [go_sem])
 clear hK K hHeld
 have hHeld := hHeld2
 clear hHeld2
 try simp only [Act.put,sA,sB,sC]
 refine takeQ 11 ?_
 refine takeQ 12 ?_
 refine takeQ 13 ?_
 refine takeQ 14 ?_
 refine takeQ 15 ?_
 refine takeQ 16 ?_
 refine takeQ 17 ?_
 refine oneL 18 rfl (by kernel_rfl) (fun K hK => ?_)
 go_simp
 (go_at_call 135; (with_reducible refine (mny_1 1 _ ht1 rfl).mono ?_); rintro e w8 ⟨rfl, rfl⟩)
 refine hK.out _ _ ?_ (fun hHeld2 => ?_)
 ·(try dsimp only)
  first | exact hHeld | (refine ⟨?_, ?_, ?_, ?_, ?_⟩ <;> simp [go_sem])
 clear hK K hHeld
 have hHeld := hHeld2
 clear hHeld2
 try simp only [Act.put,sA,sB,sC]
 refine takeQ 19 ?_
 refine takeQ 20 ?_
 refine takeQ 21 ?_
 refine takeQ 22 ?_
 refine takeQ 23 ?_
 refine wpAnyH_done (by kernel_rfl) ?_ _
 go_wp2_with fail
 go_ret
 refine ⟨ret_b ?_, (bZ _ _).drew⟩
 rw [show (2 : Int) ^ min (IntKind.u64.wrap 4).toNat 64 = 16 by decide +kernel]
 first | (exact (right_yes (by unfold RightP; omega)).symm) | (exact (right_no (by unfold RightP; omega)).symm) | (rw [right_yes (by unfold RightP; omega)]; first | (simp; done) | (simp [*]; done) | (simp; omega)) | (rw [right_no (by unfold RightP; omega)]; first | (simp; done) | (simp [*]; done) | (simp; omega))
theorem right_12y (c l m b : Int) (w : World) (ht : Tab w) (hs : 5 < w.heap.size) (hb0 : 0 ≤ b) (hb : b < 4) :
 Calls Tryz.prog 116 #[.agg #[.int .i64 1, .int .i64 2, .int .i64 0, .int .i64 0, .int .u64 b]] w fun e w' => e = .returned (.bool (rightB_ti 1 2 0 0 b)) ∧ Below w.heap.size w w' := by
 have ht1 : Tab (w.alloc (.cells #[.int .i64 1, .int .i64 2, .int .i64 0, .int .i64 0, .int .u64 b] 96)).drew := tab_keep ht hs (bZ _ _).drew
 have hq : b / 4 = 0 := by omega
 go_enter Tryz.func116, Tryz.ntmps116
 go_wp2_with fail
 refine wp_region_held_drew (S := (fun w' => w'.cell? ⟨w.heap.size, 0, none⟩ = some (.int .i64 1) ∧ w'.cell? ⟨w.heap.size, 1, none⟩ = some (.int .i64 2) ∧ w'.cell? ⟨w.heap.size, 2, none⟩ = some (.int .i64 0) ∧ w'.cell? ⟨w.heap.size, 3, none⟩ = some (.int .i64 0) ∧ w'.cell? ⟨w.heap.size, 4, none⟩ = some (.int .u64 b))) (by kernel_rfl) ?_ (fun hHeld => ?_)
 ·(try dsimp only)
  first | exact hHeld | (refine ⟨?_, ?_, ?_, ?_, ?_⟩ <;> simp [go_sem])
 refine takeQ 0 ?_
 refine takeQ 1 ?_
 refine takeQ 2 ?_
 refine takeQ 3 ?_
 refine takeQ 4 ?_
 refine takeQ 5 ?_
 refine takeQ 6 ?_
 refine takeQ 7 ?_
 refine takeQ 8 ?_
 refine takeQ 9 ?_
 refine oneL 10 rfl (by kernel_rfl) (fun K hK => ?_)
 go_simp
 (go_at_call 134; (with_reducible refine (blk_2 2 _ ht1 rfl).mono ?_); rintro e w8 ⟨rfl, rfl⟩)
 refine hK.out _ _ ?_ (fun hHeld2 => ?_)
 ·(try dsimp only)
  first | exact hHeld | (refine ⟨?_, ?_, ?_, ?_, ?_⟩ <;> simp [go_sem])
 clear hK K hHeld
 have hHeld := hHeld2
 clear hHeld2
 try simp only [Act.put,sA,sB,sC]
 refine takeQ 11 ?_
 refine takeQ 12 ?_
 refine takeQ 13 ?_
 refine takeQ 14 ?_
 refine takeQ 15 ?_
 refine takeQ 16 ?_
 refine takeQ 17 ?_
 refine oneL 18 rfl (by kernel_rfl) (fun K hK => ?_)
 go_simp
 (go_at_call 135; (with_reducible refine (mny_2 2 _ ht1 rfl).mono ?_); rintro e w8 ⟨rfl, rfl⟩)
 refine hK.out _ _ ?_ (fun hHeld2 => ?_)
 ·(try dsimp only)
  first | exact hHeld | (refine ⟨?_, ?_, ?_, ?_, ?_⟩ <;> simp [go_sem])
 clear hK K hHeld
 have hHeld := hHeld2
 clear hHeld2
 try simp only [Act.put,sA,sB,sC]
 refine takeQ 19 ?_
 refine takeQ 20 ?_
 refine takeQ 21 ?_
 refine takeQ 22 ?_
 refine takeQ 23 ?_
 refine wpAnyH_done (by kernel_rfl) ?_ _
 go_wp2_with fail
 go_ret
 refine ⟨ret_b ?_, (bZ _ _).drew⟩
 rw [show (2 : Int) ^ min (IntKind.u64.wrap 2).toNat 64 = 4 by decide +kernel]
 first | (exact (right_yes (by unfold RightP; omega)).symm) | (exact (right_no (by unfold RightP; omega)).symm) | (rw [right_yes (by unfold RightP; omega)]; first | (simp; done) | (simp [*]; done) | (simp; omega)) | (rw [right_no (by unfold RightP; omega)]; first | (simp; done) | (simp [*]; done) | (simp; omega))
theorem right_12n (c l m b : Int) (w : World) (ht : Tab w) (hs : 5 < w.heap.size) (hb0 : 0 ≤ b) (hb : 4 ≤ b) :
 Calls Tryz.prog 116 #[.agg #[.int .i64 1, .int .i64 2, .int .i64 0, .int .i64 0, .int .u64 b]] w fun e w' => e = .returned (.bool (rightB_ti 1 2 0 0 b)) ∧ Below w.heap.size w w' := by
 have ht1 : Tab (w.alloc (.cells #[.int .i64 1, .int .i64 2, .int .i64 0, .int .i64 0, .int .u64 b] 96)).drew := tab_keep ht hs (bZ _ _).drew
 have hq : ¬ b / 4 = 0 := by omega
 go_enter Tryz.func116, Tryz.ntmps116
 go_wp2_with fail
 refine wp_region_held_drew (S := (fun w' => w'.cell? ⟨w.heap.size, 0, none⟩ = some (.int .i64 1) ∧ w'.cell? ⟨w.heap.size, 1, none⟩ = some (.int .i64 2) ∧ w'.cell? ⟨w.heap.size, 2, none⟩ = some (.int .i64 0) ∧ w'.cell? ⟨w.heap.size, 3, none⟩ = some (.int .i64 0) ∧ w'.cell? ⟨w.heap.size, 4, none⟩ = some (.int .u64 b))) (by kernel_rfl) ?_ (fun hHeld => ?_)
 ·(try dsimp only)
  first | exact hHeld | (refine ⟨?_, ?_, ?_, ?_, ?_⟩ <;> simp [go_sem])
 refine takeQ 0 ?_
 refine takeQ 1 ?_
 refine takeQ 2 ?_
 refine takeQ 3 ?_
 refine takeQ 4 ?_
 refine takeQ 5 ?_
 refine takeQ 6 ?_
 refine takeQ 7 ?_
 refine takeQ 8 ?_
 refine takeQ 9 ?_
 refine oneL 10 rfl (by kernel_rfl) (fun K hK => ?_)
 go_simp
 (go_at_call 134; (with_reducible refine (blk_2 2 _ ht1 rfl).mono ?_); rintro e w8 ⟨rfl, rfl⟩)
 refine hK.out _ _ ?_ (fun hHeld2 => ?_)
 ·(try dsimp only)
  first | exact hHeld | (refine ⟨?_, ?_, ?_, ?_, ?_⟩ <;> simp [go_sem])
 clear hK K hHeld
 have hHeld := hHeld2
 clear hHeld2
 try simp only [Act.put,sA,sB,sC]
 refine takeQ 11 ?_
 refine takeQ 12 ?_
 refine takeQ 13 ?_
 refine takeQ 14 ?_
 refine takeQ 15 ?_
 refine takeQ 16 ?_
 refine takeQ 17 ?_
 refine oneL 18 rfl (by kernel_rfl) (fun K hK => ?_)
 go_simp
 (go_at_call 135; (with_reducible refine (mny_2 2 _ ht1 rfl).mono ?_); rintro e w8 ⟨rfl, rfl⟩)
 refine hK.out _ _ ?_ (fun hHeld2 => ?_)
 ·(try dsimp only)
  first | exact hHeld | (refine ⟨?_, ?_, ?_, ?_, ?_⟩ <;> simp [go_sem])
 clear hK K hHeld
 have hHeld := hHeld2
 clear hHeld2
 try simp only [Act.put,sA,sB,sC]
 refine takeQ 19 ?_
 refine takeQ 20 ?_
 refine takeQ 21 ?_
 refine takeQ 22 ?_
 refine takeQ 23 ?_
 refine wpAnyH_done (by kernel_rfl) ?_ _
 go_wp2_with fail
 go_ret
 refine ⟨ret_b ?_, (bZ _ _).drew⟩
 rw [show (2 : Int) ^ min (IntKind.u64.wrap 2).toNat 64 = 4 by decide +kernel]
 first | (exact (right_yes (by unfold RightP; omega)).symm) | (exact (right_no (by unfold RightP; omega)).symm) | (rw [right_yes (by unfold RightP; omega)]; first | (simp; done) | (simp [*]; done) | (simp; omega)) | (rw [right_no (by unfold RightP; omega)]; first | (simp; done) | (simp [*]; done) | (simp; omega))
theorem right_any_ti (k c l m b : Int) (w : World) (ht : Tab w) (hs : 5 < w.heap.size) (b0 : 0 ≤ b) :
 Calls Tryz.prog 116 #[.agg #[.int .i64 k, .int .i64 c, .int .i64 l, .int .i64 m, .int .u64 b]] w fun e w' => e = .returned (.bool (rightB_ti k c l m b)) ∧ Below w.heap.size w w' := by
 by_cases q0 : k = 0
 ·exact right_0 k c l m b w q0
 by_cases q2 : k = 2
 ·exact right_2 k c l m b w q2
 by_cases q3 : k = 3
 ·exact right_3 k c l m b w q3
 by_cases q4 : k = 4
 ·exact right_4 k c l m b w q4
 by_cases q1 : k = 1
 ·subst q1
  by_cases hl : l = 0
  ·subst hl
   by_cases hm : m = 0
   ·subst hm
    by_cases h3 : 3 ≤ c
    ·exact right_1b c 0 0 b w ht hs h3
    by_cases h4 : c ≤ -1
    ·exact right_1s c 0 0 b w ht hs h4
    by_cases hc0 : c = 0
    ·subst hc0
     by_cases hb : b < 256
     ·exact right_10y 0 0 0 b w ht hs b0 hb
     ·exact right_10n 0 0 0 b w ht hs b0 (by omega)
    by_cases hc1 : c = 1
    ·subst hc1
     by_cases hb : b < 16
     ·exact right_11y 0 0 0 b w ht hs b0 hb
     ·exact right_11n 0 0 0 b w ht hs b0 (by omega)
    obtain rfl : c = 2 := by omega
    by_cases hb : b < 4
    ·exact right_12y 0 0 0 b w ht hs b0 hb
    ·exact right_12n 0 0 0 b w ht hs b0 (by omega)
   ·exact right_1m c 0 m b w ht hs hm
  ·exact right_1l c l m b w ht hs hl
 exact right_x k c l m b w q0 q1 q2 q3 q4
end Go.Proofs.YtkdhdibjbabgfaaGreatDoor
end
section
namespace Go.Proofs.YtkdhdibjbabgfaaGreatDoor
open Go.RowKit Go.ChangeShapes Go.WideShapes Go.Deep
theorem refBit_any (x i : Nat) (w : World) (hx : x < 18446744073709551616) (hi : i ≤ 64) : Calls Tryz.prog 88 #[.int .u64 x, .int .i64 i] w fun e w' => e = .returned (.bool (x.testBit i)) ∧ w = w' := by
 go_enter Tryz.func88, Tryz.ntmps88
 go_wp2
 go_loop [0, 5] (fun v k => ∃ j : Nat, j ≤ i ∧ k = .int .i64 j ∧ v = .int .u64 ((x / 2 ^ j : Nat) : Int)) (fun _ k => 65 - (intOf k).toNat)
 case atStart => exact ⟨0, by omega, rfl, by simp⟩
 case round =>
  obtain ⟨j, hj, rfl, rfl⟩ := hrel
  have hle : x / 2 ^ j ≤ x := Nat.div_le_self _ _
  have hds : x / 2 ^ j / 2 = x / 2 ^ (j + 1) := by rw [Nat.pow_succ, Nat.div_div_eq_div_mul]
  have htb := Nat.testBit_eq_decide_div_mod_eq (x := x) (i := j)
  generalize hy : x / 2 ^ j = y at *
  have HD := lh hds
  have HT := lh htb
  clear hds htb hy
  by_cases hlt : (j : Int) < i
  ·go_wp2
   go_round
   case rel => exact ⟨j + 1, by omega, by go_num, by rw [← HD.out]; go_num⟩
   case measure => simp [intOf]; omega
  ·obtain rfl : j = i := by omega
   go_wp2
   go_ret
   refine ⟨ret_b ?_, rfl⟩
   rw [HT.out, Bool.eq_iff_iff]
   simp only [beq_iff_eq, decide_eq_true_eq]
   omega
def doN (x : Nat) (o : Ox) : Nat := if o.1 = 0 then o.2.2 else if o.1 = 1 then x ||| o.2.2 else if o.1 = 2 then x &&& o.2.2 else x
theorem doN_lt {x : Nat} {o : Ox} (hx : x < 18446744073709551616) (ho : o.2.2 < 18446744073709551616) : doN x o < 18446744073709551616 := by
 unfold doN
 split
 ·exact ho
 split
 ·exact Nat.or_lt_two_pow (n := 64) hx ho
 split
 ·exact Nat.lt_of_le_of_lt Nat.and_le_left hx
 ·exact hx
def pwN (k : Nat) : Nat := 2 ^ k % 18446744073709551616
theorem pwN_lt (k : Nat) (h : k < 64) : pwN k = 2 ^ k := Nat.mod_eq_of_lt (by have := pow_lt64 h; omega)
theorem pwN_succ (k : Nat) : (2 * pwN k) % 18446744073709551616 = pwN (k + 1) := by
 unfold pwN
 rw [Nat.mul_mod_mod, Nat.pow_succ, Nat.mul_comm]
theorem refDo_easy (x : Nat) (o : Ox) (w : World) (hx : x < 18446744073709551616) (h : o.1 ≠ 1 ∧ o.1 ≠ 2) : Calls Tryz.prog 55 #[.int .u64 (x : Nat), opV o] w fun e w' => e = .returned (.int .u64 (doN x o : Nat)) ∧ Below w.heap.size w w' := by
 obtain ⟨k, a, v⟩ := o
 unfold opV
 simp only [] at *
 have hB : Below w.heap.size w (w.alloc (.cells #[.int .i64 k, .int .i64 a, .int .u64 (v : Nat)] (53 : Nat))) := bZ _ _
 obtain ⟨c0, c1, c2⟩ := C3.new w (.int .i64 k) (.int .i64 a) (.int .u64 (v : Nat)) (53 : Nat)
 by_cases h0 : k = 0
 ·subst h0
  have e := lh (show doN x (0, a, v) = v from by simp [doN])
  clear h
  go_enter Tryz.func55, Tryz.ntmps55
  go_wp2_with fail
  go_ret
  exact ⟨by rw [e.out]; rfl, hB⟩
 ·have e := lh (show doN x (k, a, v) = x from by simp [doN, h0, h.1, h.2])
  have h0' : (k == 0) = false := by rw [beq_eq_false_iff_ne]; exact h0
  have h1 : (k != 1) = true := by rw [bne_iff_ne]; exact h.1
  have h2 : (k != 2) = true := by rw [bne_iff_ne]; exact h.2
  obtain ⟨h3, h4⟩ := h
  go_enter Tryz.func55, Tryz.ntmps55
  go_wp2_with fail
  go_ret
  exact ⟨by rw [e.out]; rfl, hB⟩
theorem refDo_1 (x v : Nat) (a : Int) (w : World) (hx : x < 18446744073709551616) (hv : v < 18446744073709551616) : Calls Tryz.prog 55 #[.int .u64 (x : Nat), opV (1, a, v)] w fun e w' => e = .returned (.int .u64 (x ||| v : Nat)) ∧ Below w.heap.size w w' := by
 have hRl : x ||| v < 18446744073709551616 := by have := doN_lt (o := (1, a, v)) hx hv; simpa [doN] using this
 have hstep := lh (fun i => show (x ||| v) % 2 ^ (i + 1) = (x ||| v) % 2 ^ i + if (x.testBit i || v.testBit i) then 2 ^ i else 0 from by rw [mod_step, Nat.testBit_or])
 have hend := lh (show (x ||| v) % 2 ^ 64 = x ||| v from Nat.mod_eq_of_lt (by simpa using hRl))
 have hX := lh (fun i (hi : i ≤ 64) w => refBit_any x i w hx hi)
 have hV := lh (fun i (hi : i ≤ 64) w => refBit_any v i w hv hi)
 have hlt := lh (fun i => show (x ||| v) % 2 ^ i < 2 ^ i from Nat.mod_lt _ (Nat.pow_pos (by decide)))
 generalize x ||| v = R at *
 unfold opV
 simp only []
 have hB : Below w.heap.size w (w.alloc (.cells #[.int .i64 1, .int .i64 a, .int .u64 (v : Nat)] (53 : Nat))) := bZ _ _
 obtain ⟨c0, c1, c2⟩ := C3.new w (.int .i64 1) (.int .i64 a) (.int .u64 (v : Nat)) (53 : Nat)
 go_enter Tryz.func55, Tryz.ntmps55
 go_wp2_with fail
 obtain ⟨W, hW⟩ : ∃ W : World, W = w.alloc (.cells #[.int .i64 1, .int .i64 a, .int .u64 (v : Nat)] (53 : Nat)) := ⟨_, rfl⟩
 rw [← hW] at c0 c1 c2 hB ⊢
 clear hW
 go_loop [5, 6, 7, 8, 9] (fun n p i _ _ => ∃ k : Nat, k ≤ 64 ∧ i = .int .i64 k ∧ n = .int .u64 (R % 2 ^ k : Nat) ∧ p = .int .u64 (pwN k : Nat)) (fun _ _ i _ _ => 65 - (intOf i).toNat)
 case atStart => exact ⟨0, by omega, rfl, by simp [Nat.mod_one], by simp [pwN]⟩
 case round =>
  obtain ⟨k, hk, rfl, rfl, rfl⟩ := hrel
  by_cases hk2 : k < 64
  ·have hk3 : (k : Int) < 64 := by omega
   have hy := pwN_lt k hk2
   have hyl := pow_lt64 hk2
   have hs := hstep.out k
   have hl := hlt.out k
   have hX1 := hX.out k (by omega)
   have hV1 := hV.out k (by omega)
   have hp2 : IntKind.u64.wrap (2 * (pwN k : Int)) = ((pwN (k + 1) : Nat) : Int) := by
    rw [IntKind.wrap_u64, ← pwN_succ]; omega
   rw [hy] at hp2
   rw [hy]
   generalize 2 ^ k = y at *
   replace hp2 := lh hp2
   clear hy
   generalize R % y = n0 at *
   generalize x.testBit k = xb at *
   generalize v.testBit k = vb at *
   have hs2 := lh hs
   clear hs
   have hX2 := lh hX1
   have hV2 := lh hV1
   clear hX1 hV1
   cases xb <;> cases vb
   all_goals
    have hs3 := hs2.out
    simp only [Bool.or_true, Bool.or_false, Bool.and_true, Bool.and_false, Bool.false_eq_true, if_true, if_false, Nat.add_zero] at hs3
    have hs4 := lh hs3
    clear hs3 hs2
    go_wp2_with fail
    refine (hX2.out _).mono ?_
    rintro e w' ⟨rfl, rfl⟩
    go_wp2_with fail
    refine (hV2.out _).mono ?_
    rintro e w' ⟨rfl, rfl⟩
    have hp3 := hp2.out
    go_wp2_with fail
    go_round
    case rel => exact ⟨k + 1, by omega, by go_num, by first | (rw [hs4.out]; done) | (rw [hs4.out]; first | rfl | go_num), by first | rfl | (rw [hp2.out])⟩
    case measure => simp [intOf]; omega
  ·obtain rfl : k = 64 := by omega
   rw [hend.out]
   go_wp2_with fail
   go_ret
   exact ⟨rfl, hB⟩
theorem refDo_2 (x v : Nat) (a : Int) (w : World) (hx : x < 18446744073709551616) (hv : v < 18446744073709551616) : Calls Tryz.prog 55 #[.int .u64 (x : Nat), opV (2, a, v)] w fun e w' => e = .returned (.int .u64 (x &&& v : Nat)) ∧ Below w.heap.size w w' := by
 have hRl : x &&& v < 18446744073709551616 := by have := doN_lt (o := (2, a, v)) hx hv; simpa [doN] using this
 have hstep := lh (fun i => show (x &&& v) % 2 ^ (i + 1) = (x &&& v) % 2 ^ i + if (x.testBit i && v.testBit i) then 2 ^ i else 0 from by rw [mod_step, Nat.testBit_and])
 have hend := lh (show (x &&& v) % 2 ^ 64 = x &&& v from Nat.mod_eq_of_lt (by simpa using hRl))
 have hX := lh (fun i (hi : i ≤ 64) w => refBit_any x i w hx hi)
 have hV := lh (fun i (hi : i ≤ 64) w => refBit_any v i w hv hi)
 have hlt := lh (fun i => show (x &&& v) % 2 ^ i < 2 ^ i from Nat.mod_lt _ (Nat.pow_pos (by decide)))
 generalize x &&& v = R at *
 unfold opV
 simp only []
 have hB : Below w.heap.size w (w.alloc (.cells #[.int .i64 2, .int .i64 a, .int .u64 (v : Nat)] (53 : Nat))) := bZ _ _
 obtain ⟨c0, c1, c2⟩ := C3.new w (.int .i64 2) (.int .i64 a) (.int .u64 (v : Nat)) (53 : Nat)
 go_enter Tryz.func55, Tryz.ntmps55
 go_wp2_with fail
 obtain ⟨W, hW⟩ : ∃ W : World, W = w.alloc (.cells #[.int .i64 2, .int .i64 a, .int .u64 (v : Nat)] (53 : Nat)) := ⟨_, rfl⟩
 rw [← hW] at c0 c1 c2 hB ⊢
 clear hW
 go_loop [5, 6, 7, 8, 9] (fun n p i _ _ => ∃ k : Nat, k ≤ 64 ∧ i = .int .i64 k ∧ n = .int .u64 (R % 2 ^ k : Nat) ∧ p = .int .u64 (pwN k : Nat)) (fun _ _ i _ _ => 65 - (intOf i).toNat)
 case atStart => exact ⟨0, by omega, rfl, by simp [Nat.mod_one], by simp [pwN]⟩
 case round =>
  obtain ⟨k, hk, rfl, rfl, rfl⟩ := hrel
  by_cases hk2 : k < 64
  ·have hk3 : (k : Int) < 64 := by omega
   have hy := pwN_lt k hk2
   have hyl := pow_lt64 hk2
   have hs := hstep.out k
   have hl := hlt.out k
   have hX1 := hX.out k (by omega)
   have hV1 := hV.out k (by omega)
   have hp2 : IntKind.u64.wrap (2 * (pwN k : Int)) = ((pwN (k + 1) : Nat) : Int) := by
    rw [IntKind.wrap_u64, ← pwN_succ]; omega
   rw [hy] at hp2
   rw [hy]
   generalize 2 ^ k = y at *
   replace hp2 := lh hp2
   clear hy
   generalize R % y = n0 at *
   generalize x.testBit k = xb at *
   generalize v.testBit k = vb at *
   have hs2 := lh hs
   clear hs
   have hX2 := lh hX1
   have hV2 := lh hV1
   clear hX1 hV1
   cases xb <;> cases vb
   all_goals
    have hs3 := hs2.out
    simp only [Bool.or_true, Bool.or_false, Bool.and_true, Bool.and_false, Bool.false_eq_true, if_true, if_false, Nat.add_zero] at hs3
    have hs4 := lh hs3
    clear hs3 hs2
    go_wp2_with fail
    refine (hX2.out _).mono ?_
    rintro e w' ⟨rfl, rfl⟩
    go_wp2_with fail
    refine (hV2.out _).mono ?_
    rintro e w' ⟨rfl, rfl⟩
    have hp3 := hp2.out
    go_wp2_with fail
    go_round
    case rel => exact ⟨k + 1, by omega, by go_num, by first | (rw [hs4.out]; done) | (rw [hs4.out]; first | rfl | go_num), by first | rfl | (rw [hp2.out])⟩
    case measure => simp [intOf]; omega
  ·obtain rfl : k = 64 := by omega
   rw [hend.out]
   go_wp2_with fail
   go_ret
   exact ⟨rfl, hB⟩
theorem refDo_any (x : Nat) (o : Ox) (w : World) (hx : x < 18446744073709551616) (ho : o.2.2 < 18446744073709551616) : Calls Tryz.prog 55 #[.int .u64 (x : Nat), opV o] w fun e w' => e = .returned (.int .u64 (doN x o : Nat)) ∧ Below w.heap.size w w' := by
 by_cases h1 : o.1 = 1
 ·obtain ⟨k, a, v⟩ := o
  simp only [] at h1 ho; subst h1
  have := refDo_1 x v a w hx ho
  simpa [doN] using this
 by_cases h2 : o.1 = 2
 ·obtain ⟨k, a, v⟩ := o
  simp only [] at h2 ho; subst h2
  have := refDo_2 x v a w hx ho
  simpa [doN] using this
 ·exact refDo_easy x o w hx ⟨h1, h2⟩
theorem op_set (x v : Nat) (k a : Int) (w : World) (hx : x < 18446744073709551616) (hv : v < 18446744073709551616) : Calls Tryz.prog 110 #[.agg #[.int .i64 k, .int .i64 a, .int .u64 (v : Nat)], .int .u64 (x : Nat)] w fun e w' => e = .returned (.int .u64 (v : Nat)) ∧ Below w.heap.size w w' := by
 have hB : Below w.heap.size w (w.alloc (.cells #[.int .i64 k, .int .i64 a, .int .u64 (v : Nat)] (137 : Nat))) := bZ _ _
 obtain ⟨c0, c1, c2⟩ := C3.new w (.int .i64 k) (.int .i64 a) (.int .u64 (v : Nat)) (137 : Nat)
 go_enter Tryz.func110, Tryz.ntmps110
 go_wp2_with fail
 go_ret
 exact ⟨rfl, hB⟩
theorem op_or (x v : Nat) (k a : Int) (w : World) (hx : x < 18446744073709551616) (hv : v < 18446744073709551616) : Calls Tryz.prog 111 #[.agg #[.int .i64 k, .int .i64 a, .int .u64 (v : Nat)], .int .u64 (x : Nat)] w fun e w' => e = .returned (.int .u64 (x ||| v : Nat)) ∧ Below w.heap.size w w' := by
 have e : bits .or .u64 (x : Int) (v : Int) = ((x ||| v : Nat) : Int) := u64_or_nat x v (by omega) (by omega)
 replace e := lh e
 have hB : Below w.heap.size w (w.alloc (.cells #[.int .i64 k, .int .i64 a, .int .u64 (v : Nat)] (137 : Nat))) := bZ _ _
 obtain ⟨c0, c1, c2⟩ := C3.new w (.int .i64 k) (.int .i64 a) (.int .u64 (v : Nat)) (137 : Nat)
 go_enter Tryz.func111, Tryz.ntmps111
 go_wp2_with fail
 go_ret
 exact ⟨by rw [← e.out]; rfl, hB⟩
theorem op_and (x v : Nat) (k a : Int) (w : World) (hx : x < 18446744073709551616) (hv : v < 18446744073709551616) : Calls Tryz.prog 112 #[.agg #[.int .i64 k, .int .i64 a, .int .u64 (v : Nat)], .int .u64 (x : Nat)] w fun e w' => e = .returned (.int .u64 (x &&& v : Nat)) ∧ Below w.heap.size w w' := by
 have e : bits .and .u64 (x : Int) (v : Int) = ((x &&& v : Nat) : Int) := u64_and_nat x v (by omega) (by omega)
 replace e := lh e
 have hB : Below w.heap.size w (w.alloc (.cells #[.int .i64 k, .int .i64 a, .int .u64 (v : Nat)] (137 : Nat))) := bZ _ _
 obtain ⟨c0, c1, c2⟩ := C3.new w (.int .i64 k) (.int .i64 a) (.int .u64 (v : Nat)) (137 : Nat)
 go_enter Tryz.func112, Tryz.ntmps112
 go_wp2_with fail
 go_ret
 exact ⟨by rw [← e.out]; rfl, hB⟩
theorem do_easy (x : Nat) (o : Ox) (w : World) (hx : x < 18446744073709551616) (h : o.1 < 0 ∨ 3 ≤ o.1) : Calls Tryz.prog 83 #[.int .u64 (x : Nat), opV o] w fun e w' => e = .returned (.int .u64 (x : Nat)) ∧ Below w.heap.size w w' := by
 obtain ⟨k, a, v⟩ := o
 unfold opV
 simp only [] at *
 have hB : Below w.heap.size w (w.alloc (.cells #[.int .i64 k, .int .i64 a, .int .u64 (v : Nat)] (53 : Nat))) := bZ _ _
 rcases h with h | h
 ·go_enter Tryz.func83, Tryz.ntmps83
  go_wp2_with fail
  go_ret
  exact ⟨rfl, hB.alloc hB.size _⟩
 ·have h' : ¬ k < 0 := by omega
  go_enter Tryz.func83, Tryz.ntmps83
  go_wp2_with fail
  go_ret
  exact ⟨rfl, hB.alloc hB.size _⟩
end Go.Proofs.YtkdhdibjbabgfaaGreatDoor
end
