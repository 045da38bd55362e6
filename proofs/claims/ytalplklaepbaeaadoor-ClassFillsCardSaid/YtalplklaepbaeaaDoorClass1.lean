/-
  What the calls of package class, and of the document's answers beside it, answer: contracts on the calls. 'Tab': the table of the blocks' words lies where the program laid it.
-/
import Derived.Test.YtalplklaepbaeaaDoorRows
import Derived.Test.YtalplklaepbaeaaDoorCommon
import Derived.WalkSpells
import Derived.WalkLawsBesides
set_option linter.unusedVariables false
namespace Go.Proofs.YtalplklaepbaeaaDoor
open Go.RowKit

def Tab (w : World) : Prop := w.cell? ⟨0, 0, none⟩ = some (.int .i64 4) ∧ w.cell? ⟨0, 1, none⟩ = some (.int .i64 8) ∧ w.cell? ⟨0, 2, none⟩ = some (.int .i64 16)

def clsI (s : Int) : Int := if s < 0 then -1 else if s ≤ 2 then 0 else if s ≤ 6 then 1 else if s ≤ 14 then 2 else -1
def chkI (s : Int) : Int := if 15 ≤ s ∧ s ≤ 4096 then (s + 33) / 32 else 0
def blkI (c : Int) : Int := if c = 0 then 4 else if c = 1 then 8 else if c = 2 then 16 else 0
def mnyI (c : Int) : Int := if c = 0 then 8 else if c = 1 then 4 else if c = 2 then 2 else 0
def rgtB (s : Int) : Bool := decide (0 ≤ s ∧ s ≤ 4096)
def romI (s : Int) : Int := if 0 ≤ clsI s then blkI (clsI s) else chkI s * 32

set_option maxHeartbeats 400000 in
theorem rgt_any (s : Int) (w : World) : Calls Tryd.prog 9 #[.int .i64 s] w fun e w' => e = .returned (.bool (rgtB s)) ∧ w = w' := by
  by_cases h : 0 ≤ s
  · by_cases k : s ≤ 4096
    · go_enter Tryd.func9, Tryd.ntmps9
      go_wp2
      go_ret
      exact ⟨ret_b (by simp [rgtB]; omega), rfl⟩
    · go_enter Tryd.func9, Tryd.ntmps9
      go_wp2
      go_ret
      exact ⟨ret_b (by simp [rgtB]; omega), rfl⟩
  · go_enter Tryd.func9, Tryd.ntmps9
    go_wp2
    go_ret
    exact ⟨ret_b (by simp [rgtB]; omega), rfl⟩
set_option maxHeartbeats 400000 in
theorem refRgt_any (s : Int) (w : World) : Calls Tryd.prog 10 #[.int .i64 s] w fun e w' => e = .returned (.bool (rgtB s)) ∧ w = w' := by
  by_cases h : 0 ≤ s
  · by_cases k : s ≤ 4096
    · go_enter Tryd.func10, Tryd.ntmps10
      go_wp2
      go_ret
      exact ⟨ret_b (by simp [rgtB]; omega), rfl⟩
    · go_enter Tryd.func10, Tryd.ntmps10
      go_wp2
      go_ret
      exact ⟨ret_b (by simp [rgtB]; omega), rfl⟩
  · go_enter Tryd.func10, Tryd.ntmps10
    go_wp2
    go_ret
    exact ⟨ret_b (by simp [rgtB]; omega), rfl⟩

theorem rgt_t (s : Int) (w : World) (h0 : 0 ≤ s) (h1 : s ≤ 4096) : Calls Tryd.prog 9 #[.int .i64 s] w fun e w' => e = .returned (.bool true) ∧ w = w' := by
  have := rgt_any s w
  rwa [show rgtB s = true by simp [rgtB]; omega] at this
theorem rgt_f (s : Int) (w : World) (h : s < 0 ∨ 4096 < s) : Calls Tryd.prog 9 #[.int .i64 s] w fun e w' => e = .returned (.bool false) ∧ w = w' := by
  have := rgt_any s w
  rwa [show rgtB s = false by simp [rgtB]; omega] at this

theorem refRgt_t (s : Int) (w : World) (h0 : 0 ≤ s) (h1 : s ≤ 4096) : Calls Tryd.prog 10 #[.int .i64 s] w fun e w' => e = .returned (.bool true) ∧ w = w' := by
  have := refRgt_any s w
  rwa [show rgtB s = true by simp [rgtB]; omega] at this
theorem refRgt_f (s : Int) (w : World) (h : s < 0 ∨ 4096 < s) : Calls Tryd.prog 10 #[.int .i64 s] w fun e w' => e = .returned (.bool false) ∧ w = w' := by
  have := refRgt_any s w
  rwa [show rgtB s = false by simp [rgtB]; omega] at this

set_option maxHeartbeats 400000 in
theorem taken_any (s : Int) (w : World) (h0 : 0 ≤ s) (h1 : s ≤ 4096) : Calls Tryd.prog 21 #[.int .i64 s] w fun e w' => e = .returned (.int .i64 (s + 2)) ∧ w = w' := by
  go_enter Tryd.func21, Tryd.ntmps21
  go_wp2
  go_ret
  exact ⟨rfl, rfl⟩

set_option maxHeartbeats 800000 in
theorem blk_0 (s : Int) (w : World) (ht : Tab w) (h1 : s = 0) : Calls Tryd.prog 17 #[.int .i64 s] w fun e w' => e = .returned (.int .i64 4) ∧ w = w' := by
  obtain ⟨t0, t1, t2⟩ := ht
  subst h1
  go_enter Tryd.func17, Tryd.ntmps17
  go_wp2
  go_ret
  exact ⟨rfl, rfl⟩

set_option maxHeartbeats 800000 in
theorem refBlk_0 (s : Int) (w : World) (h1 : s = 0) : Calls Tryd.prog 18 #[.int .i64 s] w fun e w' => e = .returned (.int .i64 4) ∧ w = w' := by
  subst h1
  go_enter Tryd.func18, Tryd.ntmps18
  go_wp2
  go_ret
  exact ⟨rfl, rfl⟩

set_option maxHeartbeats 800000 in
theorem blk_1 (s : Int) (w : World) (ht : Tab w) (h1 : s = 1) : Calls Tryd.prog 17 #[.int .i64 s] w fun e w' => e = .returned (.int .i64 8) ∧ w = w' := by
  obtain ⟨t0, t1, t2⟩ := ht
  subst h1
  go_enter Tryd.func17, Tryd.ntmps17
  go_wp2
  go_ret
  exact ⟨rfl, rfl⟩

set_option maxHeartbeats 800000 in
theorem refBlk_1 (s : Int) (w : World) (h1 : s = 1) : Calls Tryd.prog 18 #[.int .i64 s] w fun e w' => e = .returned (.int .i64 8) ∧ w = w' := by
  subst h1
  go_enter Tryd.func18, Tryd.ntmps18
  go_wp2
  go_ret
  exact ⟨rfl, rfl⟩

set_option maxHeartbeats 800000 in
theorem blk_2 (s : Int) (w : World) (ht : Tab w) (h1 : s = 2) : Calls Tryd.prog 17 #[.int .i64 s] w fun e w' => e = .returned (.int .i64 16) ∧ w = w' := by
  obtain ⟨t0, t1, t2⟩ := ht
  subst h1
  go_enter Tryd.func17, Tryd.ntmps17
  go_wp2
  go_ret
  exact ⟨rfl, rfl⟩

set_option maxHeartbeats 800000 in
theorem refBlk_2 (s : Int) (w : World) (h1 : s = 2) : Calls Tryd.prog 18 #[.int .i64 s] w fun e w' => e = .returned (.int .i64 16) ∧ w = w' := by
  subst h1
  go_enter Tryd.func18, Tryd.ntmps18
  go_wp2
  go_ret
  exact ⟨rfl, rfl⟩

set_option maxHeartbeats 800000 in
theorem blk_3 (s : Int) (w : World) (ht : Tab w) (h1 : 3 ≤ s) : Calls Tryd.prog 17 #[.int .i64 s] w fun e w' => e = .returned (.int .i64 0) ∧ w = w' := by
  obtain ⟨t0, t1, t2⟩ := ht
  go_enter Tryd.func17, Tryd.ntmps17
  go_wp2
  go_ret
  exact ⟨rfl, rfl⟩

set_option maxHeartbeats 800000 in
theorem refBlk_3 (s : Int) (w : World) (h1 : 3 ≤ s) : Calls Tryd.prog 18 #[.int .i64 s] w fun e w' => e = .returned (.int .i64 0) ∧ w = w' := by
  go_enter Tryd.func18, Tryd.ntmps18
  go_wp2
  go_ret
  exact ⟨rfl, rfl⟩

set_option maxHeartbeats 800000 in
theorem blk_4 (s : Int) (w : World) (ht : Tab w) (h1 : s ≤ -1) : Calls Tryd.prog 17 #[.int .i64 s] w fun e w' => e = .returned (.int .i64 0) ∧ w = w' := by
  obtain ⟨t0, t1, t2⟩ := ht
  go_enter Tryd.func17, Tryd.ntmps17
  go_wp2
  go_ret
  exact ⟨rfl, rfl⟩

set_option maxHeartbeats 800000 in
theorem refBlk_4 (s : Int) (w : World) (h1 : s ≤ -1) : Calls Tryd.prog 18 #[.int .i64 s] w fun e w' => e = .returned (.int .i64 0) ∧ w = w' := by
  go_enter Tryd.func18, Tryd.ntmps18
  go_wp2
  go_ret
  exact ⟨rfl, rfl⟩

theorem blk_any (s : Int) (w : World) (ht : Tab w) : Calls Tryd.prog 17 #[.int .i64 s] w fun e w' => e = .returned (.int .i64 (blkI s)) ∧ w = w' := by
  by_cases a1 : s = 0
  · rw [show blkI s = 4 by simp [blkI, a1]]; exact blk_0 s w ht a1
  by_cases a2 : s = 1
  · rw [show blkI s = 8 by simp [blkI, a2]]; exact blk_1 s w ht a2
  by_cases a3 : s = 2
  · rw [show blkI s = 16 by simp [blkI, a3]]; exact blk_2 s w ht a3
  rw [show blkI s = 0 by simp [blkI, a1, a2, a3]]
  by_cases a4 : s < 0
  · exact blk_4 s w ht (by omega)
  · exact blk_3 s w ht (by omega)

theorem refBlk_any (s : Int) (w : World) : Calls Tryd.prog 18 #[.int .i64 s] w fun e w' => e = .returned (.int .i64 (blkI s)) ∧ w = w' := by
  by_cases a1 : s = 0
  · rw [show blkI s = 4 by simp [blkI, a1]]; exact refBlk_0 s w a1
  by_cases a2 : s = 1
  · rw [show blkI s = 8 by simp [blkI, a2]]; exact refBlk_1 s w a2
  by_cases a3 : s = 2
  · rw [show blkI s = 16 by simp [blkI, a3]]; exact refBlk_2 s w a3
  rw [show blkI s = 0 by simp [blkI, a1, a2, a3]]
  by_cases a4 : s < 0
  · exact refBlk_4 s w (by omega)
  · exact refBlk_3 s w (by omega)

set_option maxHeartbeats 800000 in
theorem of_0 (s : Int) (w : World) (ht : Tab w) (h1 : 0 ≤ s) (h2 : s ≤ 2) : Calls Tryd.prog 11 #[.int .i64 s] w fun e w' => e = .returned (.int .i64 0) ∧ w = w' := by
  obtain ⟨t0, t1, t2⟩ := ht
  have i0 : ∀ w, (Instr.index 30 (.agg #[.int .i64 4, .int .i64 8, .int .i64 16]) (.int .i64 0)).run Tryd.prog w = .ok (.int .i64 4) w := fun _ => by kernel_rfl
  have i1 : ∀ w, (Instr.index 30 (.agg #[.int .i64 4, .int .i64 8, .int .i64 16]) (.int .i64 1)).run Tryd.prog w = .ok (.int .i64 8) w := fun _ => by kernel_rfl
  have i2 : ∀ w, (Instr.index 30 (.agg #[.int .i64 4, .int .i64 8, .int .i64 16]) (.int .i64 2)).run Tryd.prog w = .ok (.int .i64 16) w := fun _ => by kernel_rfl
  go_enter Tryd.func11, Tryd.ntmps11
  go_wp2_with (first | (go_at_call 9; ((with_reducible refine (rgt_t s _ (by omega) (by omega)).mono ?_); rintro e w' ⟨rfl, rfl⟩)) | (go_at_call 21; ((with_reducible refine (taken_any s _ (by omega) (by omega)).mono ?_); rintro e w' ⟨rfl, rfl⟩)))
  refine wp_loop_rounds 4 ?_
  repeat any_goals (rw [rounds_succ]; go_wp2_with (first | (go_at_call 9; ((with_reducible refine (rgt_t s _ (by omega) (by omega)).mono ?_); rintro e w' ⟨rfl, rfl⟩)) | (go_at_call 21; ((with_reducible refine (taken_any s _ (by omega) (by omega)).mono ?_); rintro e w' ⟨rfl, rfl⟩))))
  go_ret
  exact ⟨rfl, rfl⟩

set_option maxHeartbeats 800000 in
theorem refOf_0 (s : Int) (w : World) (h1 : 0 ≤ s) (h2 : s ≤ 2) : Calls Tryd.prog 12 #[.int .i64 s] w fun e w' => e = .returned (.int .i64 0) ∧ w = w' := by
  go_enter Tryd.func12, Tryd.ntmps12
  go_wp2_with (first | (go_at_call 10; ((with_reducible refine (refRgt_t s _ (by omega) (by omega)).mono ?_); rintro e w' ⟨rfl, rfl⟩)) | (go_at_call 18; ((with_reducible refine (refBlk_0 0 _ rfl).mono ?_); rintro e w' ⟨rfl, rfl⟩)) | (go_at_call 18; ((with_reducible refine (refBlk_1 1 _ rfl).mono ?_); rintro e w' ⟨rfl, rfl⟩)) | (go_at_call 18; ((with_reducible refine (refBlk_2 2 _ rfl).mono ?_); rintro e w' ⟨rfl, rfl⟩)))
  refine wp_loop_rounds 4 ?_
  repeat any_goals (rw [rounds_succ]; go_wp2_with (first | (go_at_call 10; ((with_reducible refine (refRgt_t s _ (by omega) (by omega)).mono ?_); rintro e w' ⟨rfl, rfl⟩)) | (go_at_call 18; ((with_reducible refine (refBlk_0 0 _ rfl).mono ?_); rintro e w' ⟨rfl, rfl⟩)) | (go_at_call 18; ((with_reducible refine (refBlk_1 1 _ rfl).mono ?_); rintro e w' ⟨rfl, rfl⟩)) | (go_at_call 18; ((with_reducible refine (refBlk_2 2 _ rfl).mono ?_); rintro e w' ⟨rfl, rfl⟩))))
  go_ret
  exact ⟨rfl, rfl⟩

set_option maxHeartbeats 800000 in
theorem of_1 (s : Int) (w : World) (ht : Tab w) (h1 : 3 ≤ s) (h2 : s ≤ 6) : Calls Tryd.prog 11 #[.int .i64 s] w fun e w' => e = .returned (.int .i64 1) ∧ w = w' := by
  obtain ⟨t0, t1, t2⟩ := ht
  have i0 : ∀ w, (Instr.index 30 (.agg #[.int .i64 4, .int .i64 8, .int .i64 16]) (.int .i64 0)).run Tryd.prog w = .ok (.int .i64 4) w := fun _ => by kernel_rfl
  have i1 : ∀ w, (Instr.index 30 (.agg #[.int .i64 4, .int .i64 8, .int .i64 16]) (.int .i64 1)).run Tryd.prog w = .ok (.int .i64 8) w := fun _ => by kernel_rfl
  have i2 : ∀ w, (Instr.index 30 (.agg #[.int .i64 4, .int .i64 8, .int .i64 16]) (.int .i64 2)).run Tryd.prog w = .ok (.int .i64 16) w := fun _ => by kernel_rfl
  go_enter Tryd.func11, Tryd.ntmps11
  go_wp2_with (first | (go_at_call 9; ((with_reducible refine (rgt_t s _ (by omega) (by omega)).mono ?_); rintro e w' ⟨rfl, rfl⟩)) | (go_at_call 21; ((with_reducible refine (taken_any s _ (by omega) (by omega)).mono ?_); rintro e w' ⟨rfl, rfl⟩)))
  refine wp_loop_rounds 4 ?_
  repeat any_goals (rw [rounds_succ]; go_wp2_with (first | (go_at_call 9; ((with_reducible refine (rgt_t s _ (by omega) (by omega)).mono ?_); rintro e w' ⟨rfl, rfl⟩)) | (go_at_call 21; ((with_reducible refine (taken_any s _ (by omega) (by omega)).mono ?_); rintro e w' ⟨rfl, rfl⟩))))
  go_ret
  exact ⟨rfl, rfl⟩

set_option maxHeartbeats 800000 in
theorem refOf_1 (s : Int) (w : World) (h1 : 3 ≤ s) (h2 : s ≤ 6) : Calls Tryd.prog 12 #[.int .i64 s] w fun e w' => e = .returned (.int .i64 1) ∧ w = w' := by
  go_enter Tryd.func12, Tryd.ntmps12
  go_wp2_with (first | (go_at_call 10; ((with_reducible refine (refRgt_t s _ (by omega) (by omega)).mono ?_); rintro e w' ⟨rfl, rfl⟩)) | (go_at_call 18; ((with_reducible refine (refBlk_0 0 _ rfl).mono ?_); rintro e w' ⟨rfl, rfl⟩)) | (go_at_call 18; ((with_reducible refine (refBlk_1 1 _ rfl).mono ?_); rintro e w' ⟨rfl, rfl⟩)) | (go_at_call 18; ((with_reducible refine (refBlk_2 2 _ rfl).mono ?_); rintro e w' ⟨rfl, rfl⟩)))
  refine wp_loop_rounds 4 ?_
  repeat any_goals (rw [rounds_succ]; go_wp2_with (first | (go_at_call 10; ((with_reducible refine (refRgt_t s _ (by omega) (by omega)).mono ?_); rintro e w' ⟨rfl, rfl⟩)) | (go_at_call 18; ((with_reducible refine (refBlk_0 0 _ rfl).mono ?_); rintro e w' ⟨rfl, rfl⟩)) | (go_at_call 18; ((with_reducible refine (refBlk_1 1 _ rfl).mono ?_); rintro e w' ⟨rfl, rfl⟩)) | (go_at_call 18; ((with_reducible refine (refBlk_2 2 _ rfl).mono ?_); rintro e w' ⟨rfl, rfl⟩))))
  go_ret
  exact ⟨rfl, rfl⟩

set_option maxHeartbeats 800000 in
theorem of_2 (s : Int) (w : World) (ht : Tab w) (h1 : 7 ≤ s) (h2 : s ≤ 14) : Calls Tryd.prog 11 #[.int .i64 s] w fun e w' => e = .returned (.int .i64 2) ∧ w = w' := by
  obtain ⟨t0, t1, t2⟩ := ht
  have i0 : ∀ w, (Instr.index 30 (.agg #[.int .i64 4, .int .i64 8, .int .i64 16]) (.int .i64 0)).run Tryd.prog w = .ok (.int .i64 4) w := fun _ => by kernel_rfl
  have i1 : ∀ w, (Instr.index 30 (.agg #[.int .i64 4, .int .i64 8, .int .i64 16]) (.int .i64 1)).run Tryd.prog w = .ok (.int .i64 8) w := fun _ => by kernel_rfl
  have i2 : ∀ w, (Instr.index 30 (.agg #[.int .i64 4, .int .i64 8, .int .i64 16]) (.int .i64 2)).run Tryd.prog w = .ok (.int .i64 16) w := fun _ => by kernel_rfl
  go_enter Tryd.func11, Tryd.ntmps11
  go_wp2_with (first | (go_at_call 9; ((with_reducible refine (rgt_t s _ (by omega) (by omega)).mono ?_); rintro e w' ⟨rfl, rfl⟩)) | (go_at_call 21; ((with_reducible refine (taken_any s _ (by omega) (by omega)).mono ?_); rintro e w' ⟨rfl, rfl⟩)))
  refine wp_loop_rounds 4 ?_
  repeat any_goals (rw [rounds_succ]; go_wp2_with (first | (go_at_call 9; ((with_reducible refine (rgt_t s _ (by omega) (by omega)).mono ?_); rintro e w' ⟨rfl, rfl⟩)) | (go_at_call 21; ((with_reducible refine (taken_any s _ (by omega) (by omega)).mono ?_); rintro e w' ⟨rfl, rfl⟩))))
  go_ret
  exact ⟨rfl, rfl⟩

set_option maxHeartbeats 800000 in
theorem refOf_2 (s : Int) (w : World) (h1 : 7 ≤ s) (h2 : s ≤ 14) : Calls Tryd.prog 12 #[.int .i64 s] w fun e w' => e = .returned (.int .i64 2) ∧ w = w' := by
  go_enter Tryd.func12, Tryd.ntmps12
  go_wp2_with (first | (go_at_call 10; ((with_reducible refine (refRgt_t s _ (by omega) (by omega)).mono ?_); rintro e w' ⟨rfl, rfl⟩)) | (go_at_call 18; ((with_reducible refine (refBlk_0 0 _ rfl).mono ?_); rintro e w' ⟨rfl, rfl⟩)) | (go_at_call 18; ((with_reducible refine (refBlk_1 1 _ rfl).mono ?_); rintro e w' ⟨rfl, rfl⟩)) | (go_at_call 18; ((with_reducible refine (refBlk_2 2 _ rfl).mono ?_); rintro e w' ⟨rfl, rfl⟩)))
  refine wp_loop_rounds 4 ?_
  repeat any_goals (rw [rounds_succ]; go_wp2_with (first | (go_at_call 10; ((with_reducible refine (refRgt_t s _ (by omega) (by omega)).mono ?_); rintro e w' ⟨rfl, rfl⟩)) | (go_at_call 18; ((with_reducible refine (refBlk_0 0 _ rfl).mono ?_); rintro e w' ⟨rfl, rfl⟩)) | (go_at_call 18; ((with_reducible refine (refBlk_1 1 _ rfl).mono ?_); rintro e w' ⟨rfl, rfl⟩)) | (go_at_call 18; ((with_reducible refine (refBlk_2 2 _ rfl).mono ?_); rintro e w' ⟨rfl, rfl⟩))))
  go_ret
  exact ⟨rfl, rfl⟩

set_option maxHeartbeats 800000 in
theorem of_3 (s : Int) (w : World) (ht : Tab w) (h1 : 15 ≤ s) (h2 : s ≤ 4096) : Calls Tryd.prog 11 #[.int .i64 s] w fun e w' => e = .returned (.int .i64 (-1)) ∧ w = w' := by
  obtain ⟨t0, t1, t2⟩ := ht
  have i0 : ∀ w, (Instr.index 30 (.agg #[.int .i64 4, .int .i64 8, .int .i64 16]) (.int .i64 0)).run Tryd.prog w = .ok (.int .i64 4) w := fun _ => by kernel_rfl
  have i1 : ∀ w, (Instr.index 30 (.agg #[.int .i64 4, .int .i64 8, .int .i64 16]) (.int .i64 1)).run Tryd.prog w = .ok (.int .i64 8) w := fun _ => by kernel_rfl
  have i2 : ∀ w, (Instr.index 30 (.agg #[.int .i64 4, .int .i64 8, .int .i64 16]) (.int .i64 2)).run Tryd.prog w = .ok (.int .i64 16) w := fun _ => by kernel_rfl
  go_enter Tryd.func11, Tryd.ntmps11
  go_wp2_with (first | (go_at_call 9; ((with_reducible refine (rgt_t s _ (by omega) (by omega)).mono ?_); rintro e w' ⟨rfl, rfl⟩)) | (go_at_call 21; ((with_reducible refine (taken_any s _ (by omega) (by omega)).mono ?_); rintro e w' ⟨rfl, rfl⟩)))
  refine wp_loop_rounds 4 ?_
  repeat any_goals (rw [rounds_succ]; go_wp2_with (first | (go_at_call 9; ((with_reducible refine (rgt_t s _ (by omega) (by omega)).mono ?_); rintro e w' ⟨rfl, rfl⟩)) | (go_at_call 21; ((with_reducible refine (taken_any s _ (by omega) (by omega)).mono ?_); rintro e w' ⟨rfl, rfl⟩))))
  go_ret
  exact ⟨rfl, rfl⟩

set_option maxHeartbeats 800000 in
theorem refOf_3 (s : Int) (w : World) (h1 : 15 ≤ s) (h2 : s ≤ 4096) : Calls Tryd.prog 12 #[.int .i64 s] w fun e w' => e = .returned (.int .i64 (-1)) ∧ w = w' := by
  go_enter Tryd.func12, Tryd.ntmps12
  go_wp2_with (first | (go_at_call 10; ((with_reducible refine (refRgt_t s _ (by omega) (by omega)).mono ?_); rintro e w' ⟨rfl, rfl⟩)) | (go_at_call 18; ((with_reducible refine (refBlk_0 0 _ rfl).mono ?_); rintro e w' ⟨rfl, rfl⟩)) | (go_at_call 18; ((with_reducible refine (refBlk_1 1 _ rfl).mono ?_); rintro e w' ⟨rfl, rfl⟩)) | (go_at_call 18; ((with_reducible refine (refBlk_2 2 _ rfl).mono ?_); rintro e w' ⟨rfl, rfl⟩)))
  refine wp_loop_rounds 4 ?_
  repeat any_goals (rw [rounds_succ]; go_wp2_with (first | (go_at_call 10; ((with_reducible refine (refRgt_t s _ (by omega) (by omega)).mono ?_); rintro e w' ⟨rfl, rfl⟩)) | (go_at_call 18; ((with_reducible refine (refBlk_0 0 _ rfl).mono ?_); rintro e w' ⟨rfl, rfl⟩)) | (go_at_call 18; ((with_reducible refine (refBlk_1 1 _ rfl).mono ?_); rintro e w' ⟨rfl, rfl⟩)) | (go_at_call 18; ((with_reducible refine (refBlk_2 2 _ rfl).mono ?_); rintro e w' ⟨rfl, rfl⟩))))
  go_ret
  exact ⟨rfl, rfl⟩

set_option maxHeartbeats 800000 in
theorem of_4 (s : Int) (w : World) (ht : Tab w) (h1 : 4097 ≤ s) : Calls Tryd.prog 11 #[.int .i64 s] w fun e w' => e = .returned (.int .i64 (-1)) ∧ w = w' := by
  obtain ⟨t0, t1, t2⟩ := ht
  go_enter Tryd.func11, Tryd.ntmps11
  go_wp2_with (first | (go_at_call 9; ((with_reducible refine (rgt_f s _ (by omega)).mono ?_); rintro e w' ⟨rfl, rfl⟩)))
  go_ret
  exact ⟨rfl, rfl⟩

set_option maxHeartbeats 800000 in
theorem refOf_4 (s : Int) (w : World) (h1 : 4097 ≤ s) : Calls Tryd.prog 12 #[.int .i64 s] w fun e w' => e = .returned (.int .i64 (-1)) ∧ w = w' := by
  go_enter Tryd.func12, Tryd.ntmps12
  go_wp2_with (first | (go_at_call 10; ((with_reducible refine (refRgt_f s _ (by omega)).mono ?_); rintro e w' ⟨rfl, rfl⟩)) | (go_at_call 18; ((with_reducible refine (refBlk_0 0 _ rfl).mono ?_); rintro e w' ⟨rfl, rfl⟩)) | (go_at_call 18; ((with_reducible refine (refBlk_1 1 _ rfl).mono ?_); rintro e w' ⟨rfl, rfl⟩)) | (go_at_call 18; ((with_reducible refine (refBlk_2 2 _ rfl).mono ?_); rintro e w' ⟨rfl, rfl⟩)))
  refine wp_loop_rounds 4 ?_
  repeat any_goals (rw [rounds_succ]; go_wp2_with (first | (go_at_call 10; ((with_reducible refine (refRgt_f s _ (by omega)).mono ?_); rintro e w' ⟨rfl, rfl⟩)) | (go_at_call 18; ((with_reducible refine (refBlk_0 0 _ rfl).mono ?_); rintro e w' ⟨rfl, rfl⟩)) | (go_at_call 18; ((with_reducible refine (refBlk_1 1 _ rfl).mono ?_); rintro e w' ⟨rfl, rfl⟩)) | (go_at_call 18; ((with_reducible refine (refBlk_2 2 _ rfl).mono ?_); rintro e w' ⟨rfl, rfl⟩))))
  go_ret
  exact ⟨rfl, rfl⟩

set_option maxHeartbeats 800000 in
theorem of_5 (s : Int) (w : World) (ht : Tab w) (h1 : s ≤ -1) : Calls Tryd.prog 11 #[.int .i64 s] w fun e w' => e = .returned (.int .i64 (-1)) ∧ w = w' := by
  obtain ⟨t0, t1, t2⟩ := ht
  go_enter Tryd.func11, Tryd.ntmps11
  go_wp2_with (first | (go_at_call 9; ((with_reducible refine (rgt_f s _ (by omega)).mono ?_); rintro e w' ⟨rfl, rfl⟩)))
  go_ret
  exact ⟨rfl, rfl⟩

set_option maxHeartbeats 800000 in
theorem refOf_5 (s : Int) (w : World) (h1 : s ≤ -1) : Calls Tryd.prog 12 #[.int .i64 s] w fun e w' => e = .returned (.int .i64 (-1)) ∧ w = w' := by
  go_enter Tryd.func12, Tryd.ntmps12
  go_wp2_with (first | (go_at_call 10; ((with_reducible refine (refRgt_f s _ (by omega)).mono ?_); rintro e w' ⟨rfl, rfl⟩)) | (go_at_call 18; ((with_reducible refine (refBlk_0 0 _ rfl).mono ?_); rintro e w' ⟨rfl, rfl⟩)) | (go_at_call 18; ((with_reducible refine (refBlk_1 1 _ rfl).mono ?_); rintro e w' ⟨rfl, rfl⟩)) | (go_at_call 18; ((with_reducible refine (refBlk_2 2 _ rfl).mono ?_); rintro e w' ⟨rfl, rfl⟩)))
  refine wp_loop_rounds 4 ?_
  repeat any_goals (rw [rounds_succ]; go_wp2_with (first | (go_at_call 10; ((with_reducible refine (refRgt_f s _ (by omega)).mono ?_); rintro e w' ⟨rfl, rfl⟩)) | (go_at_call 18; ((with_reducible refine (refBlk_0 0 _ rfl).mono ?_); rintro e w' ⟨rfl, rfl⟩)) | (go_at_call 18; ((with_reducible refine (refBlk_1 1 _ rfl).mono ?_); rintro e w' ⟨rfl, rfl⟩)) | (go_at_call 18; ((with_reducible refine (refBlk_2 2 _ rfl).mono ?_); rintro e w' ⟨rfl, rfl⟩))))
  go_ret
  exact ⟨rfl, rfl⟩

theorem of_any (s : Int) (w : World) (ht : Tab w) : Calls Tryd.prog 11 #[.int .i64 s] w fun e w' => e = .returned (.int .i64 (clsI s)) ∧ w = w' := by
  by_cases a1 : s < 0
  · rw [show clsI s = -1 by simp [clsI, a1]]; exact of_5 s w ht (by omega)
  by_cases a2 : s ≤ 2
  · rw [show clsI s = 0 by simp [clsI, a1, a2]]; exact of_0 s w ht (by omega) a2
  by_cases a3 : s ≤ 6
  · rw [show clsI s = 1 by simp [clsI, a1, a2, a3]]; exact of_1 s w ht (by omega) a3
  by_cases a4 : s ≤ 14
  · rw [show clsI s = 2 by simp [clsI, a1, a2, a3, a4]]; exact of_2 s w ht (by omega) a4
  rw [show clsI s = -1 by simp [clsI, a1, a2, a3, a4]]
  by_cases a5 : s ≤ 4096
  · exact of_3 s w ht (by omega) a5
  · exact of_4 s w ht (by omega)

theorem refOf_any (s : Int) (w : World) : Calls Tryd.prog 12 #[.int .i64 s] w fun e w' => e = .returned (.int .i64 (clsI s)) ∧ w = w' := by
  by_cases a1 : s < 0
  · rw [show clsI s = -1 by simp [clsI, a1]]; exact refOf_5 s w (by omega)
  by_cases a2 : s ≤ 2
  · rw [show clsI s = 0 by simp [clsI, a1, a2]]; exact refOf_0 s w (by omega) a2
  by_cases a3 : s ≤ 6
  · rw [show clsI s = 1 by simp [clsI, a1, a2, a3]]; exact refOf_1 s w (by omega) a3
  by_cases a4 : s ≤ 14
  · rw [show clsI s = 2 by simp [clsI, a1, a2, a3, a4]]; exact refOf_2 s w (by omega) a4
  rw [show clsI s = -1 by simp [clsI, a1, a2, a3, a4]]
  by_cases a5 : s ≤ 4096
  · exact refOf_3 s w (by omega) a5
  · exact refOf_4 s w (by omega)

set_option maxHeartbeats 800000 in
theorem mny_0 (s : Int) (w : World) (ht : Tab w) (h1 : s = 0) : Calls Tryd.prog 19 #[.int .i64 s] w fun e w' => e = .returned (.int .i64 8) ∧ w = w' := by
  subst h1
  go_enter Tryd.func19, Tryd.ntmps19
  go_wp2_with (go_at_call 17; refine (blk_0 0 _ ht rfl).mono ?_; rintro e w' ⟨rfl, rfl⟩)
  go_ret
  exact ⟨rfl, rfl⟩

set_option maxHeartbeats 800000 in
theorem refMny_0 (s : Int) (w : World) (h1 : s = 0) : Calls Tryd.prog 20 #[.int .i64 s] w fun e w' => e = .returned (.int .i64 8) ∧ w = w' := by
  subst h1
  go_enter Tryd.func20, Tryd.ntmps20
  go_wp2_with (go_at_call 18; refine (refBlk_0 0 _ rfl).mono ?_; rintro e w' ⟨rfl, rfl⟩)
  refine wp_loop_rounds 10 ?_
  repeat any_goals (rw [rounds_succ]; go_wp2_with (go_at_call 18; refine (refBlk_0 0 _ rfl).mono ?_; rintro e w' ⟨rfl, rfl⟩))
  go_ret
  exact ⟨rfl, rfl⟩

set_option maxHeartbeats 800000 in
theorem mny_1 (s : Int) (w : World) (ht : Tab w) (h1 : s = 1) : Calls Tryd.prog 19 #[.int .i64 s] w fun e w' => e = .returned (.int .i64 4) ∧ w = w' := by
  subst h1
  go_enter Tryd.func19, Tryd.ntmps19
  go_wp2_with (go_at_call 17; refine (blk_1 1 _ ht rfl).mono ?_; rintro e w' ⟨rfl, rfl⟩)
  go_ret
  exact ⟨rfl, rfl⟩

set_option maxHeartbeats 800000 in
theorem refMny_1 (s : Int) (w : World) (h1 : s = 1) : Calls Tryd.prog 20 #[.int .i64 s] w fun e w' => e = .returned (.int .i64 4) ∧ w = w' := by
  subst h1
  go_enter Tryd.func20, Tryd.ntmps20
  go_wp2_with (go_at_call 18; refine (refBlk_1 1 _ rfl).mono ?_; rintro e w' ⟨rfl, rfl⟩)
  refine wp_loop_rounds 10 ?_
  repeat any_goals (rw [rounds_succ]; go_wp2_with (go_at_call 18; refine (refBlk_1 1 _ rfl).mono ?_; rintro e w' ⟨rfl, rfl⟩))
  go_ret
  exact ⟨rfl, rfl⟩

set_option maxHeartbeats 800000 in
theorem mny_2 (s : Int) (w : World) (ht : Tab w) (h1 : s = 2) : Calls Tryd.prog 19 #[.int .i64 s] w fun e w' => e = .returned (.int .i64 2) ∧ w = w' := by
  subst h1
  go_enter Tryd.func19, Tryd.ntmps19
  go_wp2_with (go_at_call 17; refine (blk_2 2 _ ht rfl).mono ?_; rintro e w' ⟨rfl, rfl⟩)
  go_ret
  exact ⟨rfl, rfl⟩

set_option maxHeartbeats 800000 in
theorem refMny_2 (s : Int) (w : World) (h1 : s = 2) : Calls Tryd.prog 20 #[.int .i64 s] w fun e w' => e = .returned (.int .i64 2) ∧ w = w' := by
  subst h1
  go_enter Tryd.func20, Tryd.ntmps20
  go_wp2_with (go_at_call 18; refine (refBlk_2 2 _ rfl).mono ?_; rintro e w' ⟨rfl, rfl⟩)
  refine wp_loop_rounds 10 ?_
  repeat any_goals (rw [rounds_succ]; go_wp2_with (go_at_call 18; refine (refBlk_2 2 _ rfl).mono ?_; rintro e w' ⟨rfl, rfl⟩))
  go_ret
  exact ⟨rfl, rfl⟩

set_option maxHeartbeats 800000 in
theorem mny_3 (s : Int) (w : World) (ht : Tab w) (h1 : 3 ≤ s) : Calls Tryd.prog 19 #[.int .i64 s] w fun e w' => e = .returned (.int .i64 0) ∧ w = w' := by
  go_enter Tryd.func19, Tryd.ntmps19
  go_wp2_with (go_at_call 17; refine (blk_3 s _ ht h1).mono ?_; rintro e w' ⟨rfl, rfl⟩)
  go_ret
  exact ⟨rfl, rfl⟩

set_option maxHeartbeats 800000 in
theorem refMny_3 (s : Int) (w : World) (h1 : 3 ≤ s) : Calls Tryd.prog 20 #[.int .i64 s] w fun e w' => e = .returned (.int .i64 0) ∧ w = w' := by
  go_enter Tryd.func20, Tryd.ntmps20
  go_wp2_with (go_at_call 18; refine (refBlk_3 s _ h1).mono ?_; rintro e w' ⟨rfl, rfl⟩)
  refine wp_loop_rounds 10 ?_
  repeat any_goals (rw [rounds_succ]; go_wp2_with (go_at_call 18; refine (refBlk_3 s _ h1).mono ?_; rintro e w' ⟨rfl, rfl⟩))
  go_ret
  exact ⟨rfl, rfl⟩

set_option maxHeartbeats 800000 in
theorem mny_4 (s : Int) (w : World) (ht : Tab w) (h1 : s ≤ -1) : Calls Tryd.prog 19 #[.int .i64 s] w fun e w' => e = .returned (.int .i64 0) ∧ w = w' := by
  go_enter Tryd.func19, Tryd.ntmps19
  go_wp2_with (go_at_call 17; refine (blk_4 s _ ht h1).mono ?_; rintro e w' ⟨rfl, rfl⟩)
  go_ret
  exact ⟨rfl, rfl⟩

set_option maxHeartbeats 800000 in
theorem refMny_4 (s : Int) (w : World) (h1 : s ≤ -1) : Calls Tryd.prog 20 #[.int .i64 s] w fun e w' => e = .returned (.int .i64 0) ∧ w = w' := by
  go_enter Tryd.func20, Tryd.ntmps20
  go_wp2_with (go_at_call 18; refine (refBlk_4 s _ h1).mono ?_; rintro e w' ⟨rfl, rfl⟩)
  refine wp_loop_rounds 10 ?_
  repeat any_goals (rw [rounds_succ]; go_wp2_with (go_at_call 18; refine (refBlk_4 s _ h1).mono ?_; rintro e w' ⟨rfl, rfl⟩))
  go_ret
  exact ⟨rfl, rfl⟩

theorem mny_any (s : Int) (w : World) (ht : Tab w) : Calls Tryd.prog 19 #[.int .i64 s] w fun e w' => e = .returned (.int .i64 (mnyI s)) ∧ w = w' := by
  by_cases a1 : s = 0
  · rw [show mnyI s = 8 by simp [mnyI, a1]]; exact mny_0 s w ht a1
  by_cases a2 : s = 1
  · rw [show mnyI s = 4 by simp [mnyI, a2]]; exact mny_1 s w ht a2
  by_cases a3 : s = 2
  · rw [show mnyI s = 2 by simp [mnyI, a3]]; exact mny_2 s w ht a3
  rw [show mnyI s = 0 by simp [mnyI, a1, a2, a3]]
  by_cases a4 : s < 0
  · exact mny_4 s w ht (by omega)
  · exact mny_3 s w ht (by omega)

theorem refMny_any (s : Int) (w : World) : Calls Tryd.prog 20 #[.int .i64 s] w fun e w' => e = .returned (.int .i64 (mnyI s)) ∧ w = w' := by
  by_cases a1 : s = 0
  · rw [show mnyI s = 8 by simp [mnyI, a1]]; exact refMny_0 s w a1
  by_cases a2 : s = 1
  · rw [show mnyI s = 4 by simp [mnyI, a2]]; exact refMny_1 s w a2
  by_cases a3 : s = 2
  · rw [show mnyI s = 2 by simp [mnyI, a3]]; exact refMny_2 s w a3
  rw [show mnyI s = 0 by simp [mnyI, a1, a2, a3]]
  by_cases a4 : s < 0
  · exact refMny_4 s w (by omega)
  · exact refMny_3 s w (by omega)

end Go.Proofs.YtalplklaepbaeaaDoor
