/-
  What the calls of package class, and of the document's answers beside it, answer: contracts on the calls. 'Tab': the table of the blocks' words lies where the program laid it.
-/
import Derived.Test.YtnjifmecaeagaaaDoorRows
import Derived.Test.YtnjifmecaeagaaaDoorCommon
import Derived.WalkSpells
import Derived.WalkLawsBesides
set_option linter.unusedVariables false
namespace Go.Proofs.YtnjifmecaeagaaaDoor
open Go.RowKit

def Tab (w : World) : Prop := w.cell? ⟨5, 0, none⟩ = some (.int .i64 4) ∧ w.cell? ⟨5, 1, none⟩ = some (.int .i64 8) ∧ w.cell? ⟨5, 2, none⟩ = some (.int .i64 16)

def blkI (c : Int) : Int := if c = 0 then 4 else if c = 1 then 8 else if c = 2 then 16 else 0
def mnyI (c : Int) : Int := if c = 0 then 8 else if c = 1 then 4 else if c = 2 then 2 else 0
set_option maxHeartbeats 800000 in
theorem blk_0 (s : Int) (w : World) (ht : Tab w) (h1 : s = 0) : Calls Tryd.prog 91 #[.int .i64 s] w fun e w' => e = .returned (.int .i64 4) ∧ w = w' := by
  obtain ⟨t0, t1, t2⟩ := ht
  subst h1
  go_enter Tryd.func91, Tryd.ntmps91
  go_wp2
  go_ret
  exact ⟨rfl, rfl⟩

set_option maxHeartbeats 800000 in
theorem refBlk_0 (s : Int) (w : World) (h1 : s = 0) : Calls Tryd.prog 34 #[.int .i64 s] w fun e w' => e = .returned (.int .i64 4) ∧ w = w' := by
  subst h1
  go_enter Tryd.func34, Tryd.ntmps34
  go_wp2
  go_ret
  exact ⟨rfl, rfl⟩

set_option maxHeartbeats 800000 in
theorem blk_1 (s : Int) (w : World) (ht : Tab w) (h1 : s = 1) : Calls Tryd.prog 91 #[.int .i64 s] w fun e w' => e = .returned (.int .i64 8) ∧ w = w' := by
  obtain ⟨t0, t1, t2⟩ := ht
  subst h1
  go_enter Tryd.func91, Tryd.ntmps91
  go_wp2
  go_ret
  exact ⟨rfl, rfl⟩

set_option maxHeartbeats 800000 in
theorem refBlk_1 (s : Int) (w : World) (h1 : s = 1) : Calls Tryd.prog 34 #[.int .i64 s] w fun e w' => e = .returned (.int .i64 8) ∧ w = w' := by
  subst h1
  go_enter Tryd.func34, Tryd.ntmps34
  go_wp2
  go_ret
  exact ⟨rfl, rfl⟩

set_option maxHeartbeats 800000 in
theorem blk_2 (s : Int) (w : World) (ht : Tab w) (h1 : s = 2) : Calls Tryd.prog 91 #[.int .i64 s] w fun e w' => e = .returned (.int .i64 16) ∧ w = w' := by
  obtain ⟨t0, t1, t2⟩ := ht
  subst h1
  go_enter Tryd.func91, Tryd.ntmps91
  go_wp2
  go_ret
  exact ⟨rfl, rfl⟩

set_option maxHeartbeats 800000 in
theorem refBlk_2 (s : Int) (w : World) (h1 : s = 2) : Calls Tryd.prog 34 #[.int .i64 s] w fun e w' => e = .returned (.int .i64 16) ∧ w = w' := by
  subst h1
  go_enter Tryd.func34, Tryd.ntmps34
  go_wp2
  go_ret
  exact ⟨rfl, rfl⟩

set_option maxHeartbeats 800000 in
theorem blk_3 (s : Int) (w : World) (ht : Tab w) (h1 : 3 ≤ s) : Calls Tryd.prog 91 #[.int .i64 s] w fun e w' => e = .returned (.int .i64 0) ∧ w = w' := by
  obtain ⟨t0, t1, t2⟩ := ht
  go_enter Tryd.func91, Tryd.ntmps91
  go_wp2
  go_ret
  exact ⟨rfl, rfl⟩

set_option maxHeartbeats 800000 in
theorem refBlk_3 (s : Int) (w : World) (h1 : 3 ≤ s) : Calls Tryd.prog 34 #[.int .i64 s] w fun e w' => e = .returned (.int .i64 0) ∧ w = w' := by
  go_enter Tryd.func34, Tryd.ntmps34
  go_wp2
  go_ret
  exact ⟨rfl, rfl⟩

set_option maxHeartbeats 800000 in
theorem blk_4 (s : Int) (w : World) (ht : Tab w) (h1 : s ≤ -1) : Calls Tryd.prog 91 #[.int .i64 s] w fun e w' => e = .returned (.int .i64 0) ∧ w = w' := by
  obtain ⟨t0, t1, t2⟩ := ht
  go_enter Tryd.func91, Tryd.ntmps91
  go_wp2
  go_ret
  exact ⟨rfl, rfl⟩

set_option maxHeartbeats 800000 in
theorem refBlk_4 (s : Int) (w : World) (h1 : s ≤ -1) : Calls Tryd.prog 34 #[.int .i64 s] w fun e w' => e = .returned (.int .i64 0) ∧ w = w' := by
  go_enter Tryd.func34, Tryd.ntmps34
  go_wp2
  go_ret
  exact ⟨rfl, rfl⟩

theorem blk_any (s : Int) (w : World) (ht : Tab w) : Calls Tryd.prog 91 #[.int .i64 s] w fun e w' => e = .returned (.int .i64 (blkI s)) ∧ w = w' := by
  by_cases a1 : s = 0
  · rw [show blkI s = 4 by simp [blkI, a1]]; exact blk_0 s w ht a1
  by_cases a2 : s = 1
  · rw [show blkI s = 8 by simp [blkI, a2]]; exact blk_1 s w ht a2
  by_cases a3 : s = 2
  · rw [show blkI s = 16 by simp [blkI, a3]]; exact blk_2 s w ht a3
  rw [show blkI s = 0 by simp [blkI, a1, a2, a3]]
  by_cases a4 : s < 0
  · exact blk_4 s w ht (by omega)
  · exact blk_3 s w ht (by omega)

theorem refBlk_any (s : Int) (w : World) : Calls Tryd.prog 34 #[.int .i64 s] w fun e w' => e = .returned (.int .i64 (blkI s)) ∧ w = w' := by
  by_cases a1 : s = 0
  · rw [show blkI s = 4 by simp [blkI, a1]]; exact refBlk_0 s w a1
  by_cases a2 : s = 1
  · rw [show blkI s = 8 by simp [blkI, a2]]; exact refBlk_1 s w a2
  by_cases a3 : s = 2
  · rw [show blkI s = 16 by simp [blkI, a3]]; exact refBlk_2 s w a3
  rw [show blkI s = 0 by simp [blkI, a1, a2, a3]]
  by_cases a4 : s < 0
  · exact refBlk_4 s w (by omega)
  · exact refBlk_3 s w (by omega)

set_option maxHeartbeats 800000 in
theorem mny_0 (s : Int) (w : World) (ht : Tab w) (h1 : s = 0) : Calls Tryd.prog 90 #[.int .i64 s] w fun e w' => e = .returned (.int .i64 8) ∧ w = w' := by
  subst h1
  go_enter Tryd.func90, Tryd.ntmps90
  go_wp2_with (go_at_call 91; refine (blk_0 0 _ ht rfl).mono ?_; rintro e w' ⟨rfl, rfl⟩)
  go_ret
  exact ⟨rfl, rfl⟩

set_option maxHeartbeats 800000 in
theorem refMny_0 (s : Int) (w : World) (h1 : s = 0) : Calls Tryd.prog 32 #[.int .i64 s] w fun e w' => e = .returned (.int .i64 8) ∧ w = w' := by
  subst h1
  go_enter Tryd.func32, Tryd.ntmps32
  go_wp2_with (go_at_call 34; refine (refBlk_0 0 _ rfl).mono ?_; rintro e w' ⟨rfl, rfl⟩)
  refine wp_loop_rounds 10 ?_
  repeat any_goals (rw [rounds_succ]; go_wp2_with (go_at_call 34; refine (refBlk_0 0 _ rfl).mono ?_; rintro e w' ⟨rfl, rfl⟩))
  go_ret
  exact ⟨rfl, rfl⟩

set_option maxHeartbeats 800000 in
theorem mny_1 (s : Int) (w : World) (ht : Tab w) (h1 : s = 1) : Calls Tryd.prog 90 #[.int .i64 s] w fun e w' => e = .returned (.int .i64 4) ∧ w = w' := by
  subst h1
  go_enter Tryd.func90, Tryd.ntmps90
  go_wp2_with (go_at_call 91; refine (blk_1 1 _ ht rfl).mono ?_; rintro e w' ⟨rfl, rfl⟩)
  go_ret
  exact ⟨rfl, rfl⟩

set_option maxHeartbeats 800000 in
theorem refMny_1 (s : Int) (w : World) (h1 : s = 1) : Calls Tryd.prog 32 #[.int .i64 s] w fun e w' => e = .returned (.int .i64 4) ∧ w = w' := by
  subst h1
  go_enter Tryd.func32, Tryd.ntmps32
  go_wp2_with (go_at_call 34; refine (refBlk_1 1 _ rfl).mono ?_; rintro e w' ⟨rfl, rfl⟩)
  refine wp_loop_rounds 10 ?_
  repeat any_goals (rw [rounds_succ]; go_wp2_with (go_at_call 34; refine (refBlk_1 1 _ rfl).mono ?_; rintro e w' ⟨rfl, rfl⟩))
  go_ret
  exact ⟨rfl, rfl⟩

set_option maxHeartbeats 800000 in
theorem mny_2 (s : Int) (w : World) (ht : Tab w) (h1 : s = 2) : Calls Tryd.prog 90 #[.int .i64 s] w fun e w' => e = .returned (.int .i64 2) ∧ w = w' := by
  subst h1
  go_enter Tryd.func90, Tryd.ntmps90
  go_wp2_with (go_at_call 91; refine (blk_2 2 _ ht rfl).mono ?_; rintro e w' ⟨rfl, rfl⟩)
  go_ret
  exact ⟨rfl, rfl⟩

set_option maxHeartbeats 800000 in
theorem refMny_2 (s : Int) (w : World) (h1 : s = 2) : Calls Tryd.prog 32 #[.int .i64 s] w fun e w' => e = .returned (.int .i64 2) ∧ w = w' := by
  subst h1
  go_enter Tryd.func32, Tryd.ntmps32
  go_wp2_with (go_at_call 34; refine (refBlk_2 2 _ rfl).mono ?_; rintro e w' ⟨rfl, rfl⟩)
  refine wp_loop_rounds 10 ?_
  repeat any_goals (rw [rounds_succ]; go_wp2_with (go_at_call 34; refine (refBlk_2 2 _ rfl).mono ?_; rintro e w' ⟨rfl, rfl⟩))
  go_ret
  exact ⟨rfl, rfl⟩

set_option maxHeartbeats 800000 in
theorem mny_3 (s : Int) (w : World) (ht : Tab w) (h1 : 3 ≤ s) : Calls Tryd.prog 90 #[.int .i64 s] w fun e w' => e = .returned (.int .i64 0) ∧ w = w' := by
  go_enter Tryd.func90, Tryd.ntmps90
  go_wp2_with (go_at_call 91; refine (blk_3 s _ ht h1).mono ?_; rintro e w' ⟨rfl, rfl⟩)
  go_ret
  exact ⟨rfl, rfl⟩

set_option maxHeartbeats 800000 in
theorem refMny_3 (s : Int) (w : World) (h1 : 3 ≤ s) : Calls Tryd.prog 32 #[.int .i64 s] w fun e w' => e = .returned (.int .i64 0) ∧ w = w' := by
  go_enter Tryd.func32, Tryd.ntmps32
  go_wp2_with (go_at_call 34; refine (refBlk_3 s _ h1).mono ?_; rintro e w' ⟨rfl, rfl⟩)
  refine wp_loop_rounds 10 ?_
  repeat any_goals (rw [rounds_succ]; go_wp2_with (go_at_call 34; refine (refBlk_3 s _ h1).mono ?_; rintro e w' ⟨rfl, rfl⟩))
  go_ret
  exact ⟨rfl, rfl⟩

set_option maxHeartbeats 800000 in
theorem mny_4 (s : Int) (w : World) (ht : Tab w) (h1 : s ≤ -1) : Calls Tryd.prog 90 #[.int .i64 s] w fun e w' => e = .returned (.int .i64 0) ∧ w = w' := by
  go_enter Tryd.func90, Tryd.ntmps90
  go_wp2_with (go_at_call 91; refine (blk_4 s _ ht h1).mono ?_; rintro e w' ⟨rfl, rfl⟩)
  go_ret
  exact ⟨rfl, rfl⟩

set_option maxHeartbeats 800000 in
theorem refMny_4 (s : Int) (w : World) (h1 : s ≤ -1) : Calls Tryd.prog 32 #[.int .i64 s] w fun e w' => e = .returned (.int .i64 0) ∧ w = w' := by
  go_enter Tryd.func32, Tryd.ntmps32
  go_wp2_with (go_at_call 34; refine (refBlk_4 s _ h1).mono ?_; rintro e w' ⟨rfl, rfl⟩)
  refine wp_loop_rounds 10 ?_
  repeat any_goals (rw [rounds_succ]; go_wp2_with (go_at_call 34; refine (refBlk_4 s _ h1).mono ?_; rintro e w' ⟨rfl, rfl⟩))
  go_ret
  exact ⟨rfl, rfl⟩

theorem mny_any (s : Int) (w : World) (ht : Tab w) : Calls Tryd.prog 90 #[.int .i64 s] w fun e w' => e = .returned (.int .i64 (mnyI s)) ∧ w = w' := by
  by_cases a1 : s = 0
  · rw [show mnyI s = 8 by simp [mnyI, a1]]; exact mny_0 s w ht a1
  by_cases a2 : s = 1
  · rw [show mnyI s = 4 by simp [mnyI, a2]]; exact mny_1 s w ht a2
  by_cases a3 : s = 2
  · rw [show mnyI s = 2 by simp [mnyI, a3]]; exact mny_2 s w ht a3
  rw [show mnyI s = 0 by simp [mnyI, a1, a2, a3]]
  by_cases a4 : s < 0
  · exact mny_4 s w ht (by omega)
  · exact mny_3 s w ht (by omega)

theorem refMny_any (s : Int) (w : World) : Calls Tryd.prog 32 #[.int .i64 s] w fun e w' => e = .returned (.int .i64 (mnyI s)) ∧ w = w' := by
  by_cases a1 : s = 0
  · rw [show mnyI s = 8 by simp [mnyI, a1]]; exact refMny_0 s w a1
  by_cases a2 : s = 1
  · rw [show mnyI s = 4 by simp [mnyI, a2]]; exact refMny_1 s w a2
  by_cases a3 : s = 2
  · rw [show mnyI s = 2 by simp [mnyI, a3]]; exact refMny_2 s w a3
  rw [show mnyI s = 0 by simp [mnyI, a1, a2, a3]]
  by_cases a4 : s < 0
  · exact refMny_4 s w (by omega)
  · exact refMny_3 s w (by omega)


theorem tab_keep {w w1 : World} {n : Nat} (h : Tab w) (hs : 5 < n) (hb : Below n w w1) : Tab w1 :=
  ⟨by rw [hb.cell hs]; exact h.1, by rw [hb.cell hs]; exact h.2.1, by rw [hb.cell hs]; exact h.2.2⟩
end Go.Proofs.YtnjifmecaeagaaaDoor