/-
  Part of the proof of SoundTells,SoundGiven.
-/
import Derived.Test.YtdmmbnnejbmdpaaGreatDoorVu91
import Derived.Test.YtdmmbnnejbmdpaaGreatDoorRows
import Derived.WalkLawsBesides
import Derived.WalkSpells
import Derived.Test.YtdmmbnnejbmdpaaGreatDoorVu90
set_option maxRecDepth 10000
set_option maxHeartbeats 800000
set_option linter.unusedVariables false
set_option linter.unusedSimpArgs false
section
namespace Go.Proofs.YtdmmbnnejbmdpaaGreatDoor
open Go.RowKit
def Tab (w : World) : Prop := w.cell? ⟨5, 0, none⟩ = some (.int .i64 4) ∧ w.cell? ⟨5, 1, none⟩ = some (.int .i64 8) ∧ w.cell? ⟨5, 2, none⟩ = some (.int .i64 16)
def blkI (c : Int) : Int := if c = 0 then 4 else if c = 1 then 8 else if c = 2 then 16 else 0
def mnyI (c : Int) : Int := if c = 0 then 8 else if c = 1 then 4 else if c = 2 then 2 else 0
theorem blk_0 (s : Int) (w : World) (ht : Tab w) (h1 : s = 0) : Calls Tryz.prog 112 #[.int .i64 s] w fun e w' => e = .returned (.int .i64 4) ∧ w = w' := by
 obtain ⟨t0, t1, t2⟩ := ht
 subst h1
 go_enter Tryz.func112, Tryz.ntmps112
 go_wp2
 go_ret
 exact ⟨rfl, rfl⟩
theorem refBlk_0 (s : Int) (w : World) (h1 : s = 0) : Calls Tryz.prog 63 #[.int .i64 s] w fun e w' => e = .returned (.int .i64 4) ∧ w = w' := by
 subst h1
 go_enter Tryz.func63, Tryz.ntmps63
 go_wp2
 go_ret
 exact ⟨rfl, rfl⟩
theorem blk_1 (s : Int) (w : World) (ht : Tab w) (h1 : s = 1) : Calls Tryz.prog 112 #[.int .i64 s] w fun e w' => e = .returned (.int .i64 8) ∧ w = w' := by
 obtain ⟨t0, t1, t2⟩ := ht
 subst h1
 go_enter Tryz.func112, Tryz.ntmps112
 go_wp2
 go_ret
 exact ⟨rfl, rfl⟩
theorem refBlk_1 (s : Int) (w : World) (h1 : s = 1) : Calls Tryz.prog 63 #[.int .i64 s] w fun e w' => e = .returned (.int .i64 8) ∧ w = w' := by
 subst h1
 go_enter Tryz.func63, Tryz.ntmps63
 go_wp2
 go_ret
 exact ⟨rfl, rfl⟩
theorem blk_2 (s : Int) (w : World) (ht : Tab w) (h1 : s = 2) : Calls Tryz.prog 112 #[.int .i64 s] w fun e w' => e = .returned (.int .i64 16) ∧ w = w' := by
 obtain ⟨t0, t1, t2⟩ := ht
 subst h1
 go_enter Tryz.func112, Tryz.ntmps112
 go_wp2
 go_ret
 exact ⟨rfl, rfl⟩
theorem refBlk_2 (s : Int) (w : World) (h1 : s = 2) : Calls Tryz.prog 63 #[.int .i64 s] w fun e w' => e = .returned (.int .i64 16) ∧ w = w' := by
 subst h1
 go_enter Tryz.func63, Tryz.ntmps63
 go_wp2
 go_ret
 exact ⟨rfl, rfl⟩
theorem blk_3 (s : Int) (w : World) (ht : Tab w) (h1 : 3 ≤ s) : Calls Tryz.prog 112 #[.int .i64 s] w fun e w' => e = .returned (.int .i64 0) ∧ w = w' := by
 obtain ⟨t0, t1, t2⟩ := ht
 go_enter Tryz.func112, Tryz.ntmps112
 go_wp2
 go_ret
 exact ⟨rfl, rfl⟩
theorem refBlk_3 (s : Int) (w : World) (h1 : 3 ≤ s) : Calls Tryz.prog 63 #[.int .i64 s] w fun e w' => e = .returned (.int .i64 0) ∧ w = w' := by
 go_enter Tryz.func63, Tryz.ntmps63
 go_wp2
 go_ret
 exact ⟨rfl, rfl⟩
theorem blk_4 (s : Int) (w : World) (ht : Tab w) (h1 : s ≤ -1) : Calls Tryz.prog 112 #[.int .i64 s] w fun e w' => e = .returned (.int .i64 0) ∧ w = w' := by
 obtain ⟨t0, t1, t2⟩ := ht
 go_enter Tryz.func112, Tryz.ntmps112
 go_wp2
 go_ret
 exact ⟨rfl, rfl⟩
theorem refBlk_4 (s : Int) (w : World) (h1 : s ≤ -1) : Calls Tryz.prog 63 #[.int .i64 s] w fun e w' => e = .returned (.int .i64 0) ∧ w = w' := by
 go_enter Tryz.func63, Tryz.ntmps63
 go_wp2
 go_ret
 exact ⟨rfl, rfl⟩
theorem blk_any (s : Int) (w : World) (ht : Tab w) : Calls Tryz.prog 112 #[.int .i64 s] w fun e w' => e = .returned (.int .i64 (blkI s)) ∧ w = w' := by
 by_cases a1 : s = 0
 ·rw [show blkI s = 4 by simp [blkI, a1]]; exact blk_0 s w ht a1
 by_cases a2 : s = 1
 ·rw [show blkI s = 8 by simp [blkI, a2]]; exact blk_1 s w ht a2
 by_cases a3 : s = 2
 ·rw [show blkI s = 16 by simp [blkI, a3]]; exact blk_2 s w ht a3
 rw [show blkI s = 0 by simp [blkI, a1, a2, a3]]
 by_cases a4 : s < 0
 ·exact blk_4 s w ht (by omega)
 ·exact blk_3 s w ht (by omega)
theorem refBlk_any (s : Int) (w : World) : Calls Tryz.prog 63 #[.int .i64 s] w fun e w' => e = .returned (.int .i64 (blkI s)) ∧ w = w' := by
 by_cases a1 : s = 0
 ·rw [show blkI s = 4 by simp [blkI, a1]]; exact refBlk_0 s w a1
 by_cases a2 : s = 1
 ·rw [show blkI s = 8 by simp [blkI, a2]]; exact refBlk_1 s w a2
 by_cases a3 : s = 2
 ·rw [show blkI s = 16 by simp [blkI, a3]]; exact refBlk_2 s w a3
 rw [show blkI s = 0 by simp [blkI, a1, a2, a3]]
 by_cases a4 : s < 0
 ·exact refBlk_4 s w (by omega)
 ·exact refBlk_3 s w (by omega)
theorem mny_0 (s : Int) (w : World) (ht : Tab w) (h1 : s = 0) : Calls Tryz.prog 128 #[.int .i64 s] w fun e w' => e = .returned (.int .i64 8) ∧ w = w' := by
 subst h1
 go_enter Tryz.func128, Tryz.ntmps128
 go_wp2_with (go_at_call 112; refine (blk_0 0 _ ht rfl).mono ?_; rintro e w' ⟨rfl, rfl⟩)
 go_ret
 exact ⟨rfl, rfl⟩
theorem refMny_0 (s : Int) (w : World) (h1 : s = 0) : Calls Tryz.prog 61 #[.int .i64 s] w fun e w' => e = .returned (.int .i64 8) ∧ w = w' := by
 subst h1
 go_enter Tryz.func61, Tryz.ntmps61
 go_wp2_with (go_at_call 63; refine (refBlk_0 0 _ rfl).mono ?_; rintro e w' ⟨rfl, rfl⟩)
 refine wp_loop_rounds 10 ?_
 repeat any_goals (rw [rounds_succ]; go_wp2_with (go_at_call 63; refine (refBlk_0 0 _ rfl).mono ?_; rintro e w' ⟨rfl, rfl⟩))
 go_ret
 exact ⟨rfl, rfl⟩
theorem mny_1 (s : Int) (w : World) (ht : Tab w) (h1 : s = 1) : Calls Tryz.prog 128 #[.int .i64 s] w fun e w' => e = .returned (.int .i64 4) ∧ w = w' := by
 subst h1
 go_enter Tryz.func128, Tryz.ntmps128
 go_wp2_with (go_at_call 112; refine (blk_1 1 _ ht rfl).mono ?_; rintro e w' ⟨rfl, rfl⟩)
 go_ret
 exact ⟨rfl, rfl⟩
theorem refMny_1 (s : Int) (w : World) (h1 : s = 1) : Calls Tryz.prog 61 #[.int .i64 s] w fun e w' => e = .returned (.int .i64 4) ∧ w = w' := by
 subst h1
 go_enter Tryz.func61, Tryz.ntmps61
 go_wp2_with (go_at_call 63; refine (refBlk_1 1 _ rfl).mono ?_; rintro e w' ⟨rfl, rfl⟩)
 refine wp_loop_rounds 10 ?_
 repeat any_goals (rw [rounds_succ]; go_wp2_with (go_at_call 63; refine (refBlk_1 1 _ rfl).mono ?_; rintro e w' ⟨rfl, rfl⟩))
 go_ret
 exact ⟨rfl, rfl⟩
theorem mny_2 (s : Int) (w : World) (ht : Tab w) (h1 : s = 2) : Calls Tryz.prog 128 #[.int .i64 s] w fun e w' => e = .returned (.int .i64 2) ∧ w = w' := by
 subst h1
 go_enter Tryz.func128, Tryz.ntmps128
 go_wp2_with (go_at_call 112; refine (blk_2 2 _ ht rfl).mono ?_; rintro e w' ⟨rfl, rfl⟩)
 go_ret
 exact ⟨rfl, rfl⟩
theorem refMny_2 (s : Int) (w : World) (h1 : s = 2) : Calls Tryz.prog 61 #[.int .i64 s] w fun e w' => e = .returned (.int .i64 2) ∧ w = w' := by
 subst h1
 go_enter Tryz.func61, Tryz.ntmps61
 go_wp2_with (go_at_call 63; refine (refBlk_2 2 _ rfl).mono ?_; rintro e w' ⟨rfl, rfl⟩)
 refine wp_loop_rounds 10 ?_
 repeat any_goals (rw [rounds_succ]; go_wp2_with (go_at_call 63; refine (refBlk_2 2 _ rfl).mono ?_; rintro e w' ⟨rfl, rfl⟩))
 go_ret
 exact ⟨rfl, rfl⟩
theorem mny_3 (s : Int) (w : World) (ht : Tab w) (h1 : 3 ≤ s) : Calls Tryz.prog 128 #[.int .i64 s] w fun e w' => e = .returned (.int .i64 0) ∧ w = w' := by
 go_enter Tryz.func128, Tryz.ntmps128
 go_wp2_with (go_at_call 112; refine (blk_3 s _ ht h1).mono ?_; rintro e w' ⟨rfl, rfl⟩)
 go_ret
 exact ⟨rfl, rfl⟩
theorem refMny_3 (s : Int) (w : World) (h1 : 3 ≤ s) : Calls Tryz.prog 61 #[.int .i64 s] w fun e w' => e = .returned (.int .i64 0) ∧ w = w' := by
 go_enter Tryz.func61, Tryz.ntmps61
 go_wp2_with (go_at_call 63; refine (refBlk_3 s _ h1).mono ?_; rintro e w' ⟨rfl, rfl⟩)
 refine wp_loop_rounds 10 ?_
 repeat any_goals (rw [rounds_succ]; go_wp2_with (go_at_call 63; refine (refBlk_3 s _ h1).mono ?_; rintro e w' ⟨rfl, rfl⟩))
 go_ret
 exact ⟨rfl, rfl⟩
theorem mny_4 (s : Int) (w : World) (ht : Tab w) (h1 : s ≤ -1) : Calls Tryz.prog 128 #[.int .i64 s] w fun e w' => e = .returned (.int .i64 0) ∧ w = w' := by
 go_enter Tryz.func128, Tryz.ntmps128
 go_wp2_with (go_at_call 112; refine (blk_4 s _ ht h1).mono ?_; rintro e w' ⟨rfl, rfl⟩)
 go_ret
 exact ⟨rfl, rfl⟩
theorem refMny_4 (s : Int) (w : World) (h1 : s ≤ -1) : Calls Tryz.prog 61 #[.int .i64 s] w fun e w' => e = .returned (.int .i64 0) ∧ w = w' := by
 go_enter Tryz.func61, Tryz.ntmps61
 go_wp2_with (go_at_call 63; refine (refBlk_4 s _ h1).mono ?_; rintro e w' ⟨rfl, rfl⟩)
 refine wp_loop_rounds 10 ?_
 repeat any_goals (rw [rounds_succ]; go_wp2_with (go_at_call 63; refine (refBlk_4 s _ h1).mono ?_; rintro e w' ⟨rfl, rfl⟩))
 go_ret
 exact ⟨rfl, rfl⟩
theorem mny_any (s : Int) (w : World) (ht : Tab w) : Calls Tryz.prog 128 #[.int .i64 s] w fun e w' => e = .returned (.int .i64 (mnyI s)) ∧ w = w' := by
 by_cases a1 : s = 0
 ·rw [show mnyI s = 8 by simp [mnyI, a1]]; exact mny_0 s w ht a1
 by_cases a2 : s = 1
 ·rw [show mnyI s = 4 by simp [mnyI, a2]]; exact mny_1 s w ht a2
 by_cases a3 : s = 2
 ·rw [show mnyI s = 2 by simp [mnyI, a3]]; exact mny_2 s w ht a3
 rw [show mnyI s = 0 by simp [mnyI, a1, a2, a3]]
 by_cases a4 : s < 0
 ·exact mny_4 s w ht (by omega)
 ·exact mny_3 s w ht (by omega)
theorem refMny_any (s : Int) (w : World) : Calls Tryz.prog 61 #[.int .i64 s] w fun e w' => e = .returned (.int .i64 (mnyI s)) ∧ w = w' := by
 by_cases a1 : s = 0
 ·rw [show mnyI s = 8 by simp [mnyI, a1]]; exact refMny_0 s w a1
 by_cases a2 : s = 1
 ·rw [show mnyI s = 4 by simp [mnyI, a2]]; exact refMny_1 s w a2
 by_cases a3 : s = 2
 ·rw [show mnyI s = 2 by simp [mnyI, a3]]; exact refMny_2 s w a3
 rw [show mnyI s = 0 by simp [mnyI, a1, a2, a3]]
 by_cases a4 : s < 0
 ·exact refMny_4 s w (by omega)
 ·exact refMny_3 s w (by omega)
theorem tab_keep {w w1 : World} {n : Nat} (h : Tab w) (hs : 5 < n) (hb : Below n w w1) : Tab w1 :=
 ⟨by rw [hb.cell hs]; exact h.1, by rw [hb.cell hs]; exact h.2.1, by rw [hb.cell hs]; exact h.2.2⟩
end Go.Proofs.YtdmmbnnejbmdpaaGreatDoor
end
section
namespace Go.Proofs.YtdmmbnnejbmdpaaGreatDoor
open Go.RowKit
def clsI (s : Int) : Int := if s < 0 then -1 else if s ≤ 2 then 0 else if s ≤ 6 then 1 else if s ≤ 14 then 2 else -1
def chkI (s : Int) : Int := if 15 ≤ s ∧ s ≤ 4096 then (s + 33) / 32 else 0
def rgtB (s : Int) : Bool := decide (0 ≤ s ∧ s ≤ 4096)
theorem rgt_any (s : Int) (w : World) : Calls Tryz.prog 130 #[.int .i64 s] w fun e w' => e = .returned (.bool (rgtB s)) ∧ w = w' := by
 by_cases h : 0 ≤ s
 ·by_cases k : s ≤ 4096
  ·go_enter Tryz.func130, Tryz.ntmps130
   go_wp2
   go_ret
   exact ⟨ret_b (by simp [rgtB]; omega), rfl⟩
  ·go_enter Tryz.func130, Tryz.ntmps130
   go_wp2
   go_ret
   exact ⟨ret_b (by simp [rgtB]; omega), rfl⟩
 ·go_enter Tryz.func130, Tryz.ntmps130
  go_wp2
  go_ret
  exact ⟨ret_b (by simp [rgtB]; omega), rfl⟩
theorem refRgt_any (s : Int) (w : World) : Calls Tryz.prog 107 #[.int .i64 s] w fun e w' => e = .returned (.bool (rgtB s)) ∧ w = w' := by
 by_cases h : 0 ≤ s
 ·by_cases k : s ≤ 4096
  ·go_enter Tryz.func107, Tryz.ntmps107
   go_wp2
   go_ret
   exact ⟨ret_b (by simp [rgtB]; omega), rfl⟩
  ·go_enter Tryz.func107, Tryz.ntmps107
   go_wp2
   go_ret
   exact ⟨ret_b (by simp [rgtB]; omega), rfl⟩
 ·go_enter Tryz.func107, Tryz.ntmps107
  go_wp2
  go_ret
  exact ⟨ret_b (by simp [rgtB]; omega), rfl⟩
theorem rgt_t (s : Int) (w : World) (h0 : 0 ≤ s) (h1 : s ≤ 4096) : Calls Tryz.prog 130 #[.int .i64 s] w fun e w' => e = .returned (.bool true) ∧ w = w' := by
 have := rgt_any s w
 rwa [show rgtB s = true by simp [rgtB]; omega] at this
theorem rgt_f (s : Int) (w : World) (h : s < 0 ∨ 4096 < s) : Calls Tryz.prog 130 #[.int .i64 s] w fun e w' => e = .returned (.bool false) ∧ w = w' := by
 have := rgt_any s w
 rwa [show rgtB s = false by simp [rgtB]; omega] at this
theorem refRgt_t (s : Int) (w : World) (h0 : 0 ≤ s) (h1 : s ≤ 4096) : Calls Tryz.prog 107 #[.int .i64 s] w fun e w' => e = .returned (.bool true) ∧ w = w' := by
 have := refRgt_any s w
 rwa [show rgtB s = true by simp [rgtB]; omega] at this
theorem refRgt_f (s : Int) (w : World) (h : s < 0 ∨ 4096 < s) : Calls Tryz.prog 107 #[.int .i64 s] w fun e w' => e = .returned (.bool false) ∧ w = w' := by
 have := refRgt_any s w
 rwa [show rgtB s = false by simp [rgtB]; omega] at this
theorem taken_any (s : Int) (w : World) (h0 : 0 ≤ s) (h1 : s ≤ 4096) : Calls Tryz.prog 131 #[.int .i64 s] w fun e w' => e = .returned (.int .i64 (s + 2)) ∧ w = w' := by
 go_enter Tryz.func131, Tryz.ntmps131
 go_wp2
 go_ret
 exact ⟨rfl, rfl⟩
theorem of_0 (s : Int) (w : World) (ht : Tab w) (h1 : 0 ≤ s) (h2 : s ≤ 2) : Calls Tryz.prog 111 #[.int .i64 s] w fun e w' => e = .returned (.int .i64 0) ∧ w = w' := by
 obtain ⟨t0, t1, t2⟩ := ht
 have i0 : ∀ w, (Instr.index 173 (.agg #[.int .i64 4, .int .i64 8, .int .i64 16]) (.int .i64 0)).run Tryz.prog w = .ok (.int .i64 4) w := fun _ => by kernel_rfl
 have i1 : ∀ w, (Instr.index 173 (.agg #[.int .i64 4, .int .i64 8, .int .i64 16]) (.int .i64 1)).run Tryz.prog w = .ok (.int .i64 8) w := fun _ => by kernel_rfl
 have i2 : ∀ w, (Instr.index 173 (.agg #[.int .i64 4, .int .i64 8, .int .i64 16]) (.int .i64 2)).run Tryz.prog w = .ok (.int .i64 16) w := fun _ => by kernel_rfl
 go_enter Tryz.func111, Tryz.ntmps111
 go_wp2_with (first | (go_at_call 130; ((with_reducible refine (rgt_t s _ (by omega) (by omega)).mono ?_); rintro e w' ⟨rfl, rfl⟩)) | (go_at_call 131; ((with_reducible refine (taken_any s _ (by omega) (by omega)).mono ?_); rintro e w' ⟨rfl, rfl⟩)))
 refine wp_loop_rounds 4 ?_
 repeat any_goals (rw [rounds_succ]; go_wp2_with (first | (go_at_call 130; ((with_reducible refine (rgt_t s _ (by omega) (by omega)).mono ?_); rintro e w' ⟨rfl, rfl⟩)) | (go_at_call 131; ((with_reducible refine (taken_any s _ (by omega) (by omega)).mono ?_); rintro e w' ⟨rfl, rfl⟩))))
 go_ret
 exact ⟨rfl, rfl⟩
theorem refOf_0 (s : Int) (w : World) (h1 : 0 ≤ s) (h2 : s ≤ 2) : Calls Tryz.prog 83 #[.int .i64 s] w fun e w' => e = .returned (.int .i64 0) ∧ w = w' := by
 go_enter Tryz.func83, Tryz.ntmps83
 go_wp2_with (first | (go_at_call 107; ((with_reducible refine (refRgt_t s _ (by omega) (by omega)).mono ?_); rintro e w' ⟨rfl, rfl⟩)) | (go_at_call 63; ((with_reducible refine (refBlk_0 0 _ rfl).mono ?_); rintro e w' ⟨rfl, rfl⟩)) | (go_at_call 63; ((with_reducible refine (refBlk_1 1 _ rfl).mono ?_); rintro e w' ⟨rfl, rfl⟩)) | (go_at_call 63; ((with_reducible refine (refBlk_2 2 _ rfl).mono ?_); rintro e w' ⟨rfl, rfl⟩)))
 refine wp_loop_rounds 4 ?_
 repeat any_goals (rw [rounds_succ]; go_wp2_with (first | (go_at_call 107; ((with_reducible refine (refRgt_t s _ (by omega) (by omega)).mono ?_); rintro e w' ⟨rfl, rfl⟩)) | (go_at_call 63; ((with_reducible refine (refBlk_0 0 _ rfl).mono ?_); rintro e w' ⟨rfl, rfl⟩)) | (go_at_call 63; ((with_reducible refine (refBlk_1 1 _ rfl).mono ?_); rintro e w' ⟨rfl, rfl⟩)) | (go_at_call 63; ((with_reducible refine (refBlk_2 2 _ rfl).mono ?_); rintro e w' ⟨rfl, rfl⟩))))
 go_ret
 exact ⟨rfl, rfl⟩
theorem of_1 (s : Int) (w : World) (ht : Tab w) (h1 : 3 ≤ s) (h2 : s ≤ 6) : Calls Tryz.prog 111 #[.int .i64 s] w fun e w' => e = .returned (.int .i64 1) ∧ w = w' := by
 obtain ⟨t0, t1, t2⟩ := ht
 have i0 : ∀ w, (Instr.index 173 (.agg #[.int .i64 4, .int .i64 8, .int .i64 16]) (.int .i64 0)).run Tryz.prog w = .ok (.int .i64 4) w := fun _ => by kernel_rfl
 have i1 : ∀ w, (Instr.index 173 (.agg #[.int .i64 4, .int .i64 8, .int .i64 16]) (.int .i64 1)).run Tryz.prog w = .ok (.int .i64 8) w := fun _ => by kernel_rfl
 have i2 : ∀ w, (Instr.index 173 (.agg #[.int .i64 4, .int .i64 8, .int .i64 16]) (.int .i64 2)).run Tryz.prog w = .ok (.int .i64 16) w := fun _ => by kernel_rfl
 go_enter Tryz.func111, Tryz.ntmps111
 go_wp2_with (first | (go_at_call 130; ((with_reducible refine (rgt_t s _ (by omega) (by omega)).mono ?_); rintro e w' ⟨rfl, rfl⟩)) | (go_at_call 131; ((with_reducible refine (taken_any s _ (by omega) (by omega)).mono ?_); rintro e w' ⟨rfl, rfl⟩)))
 refine wp_loop_rounds 4 ?_
 repeat any_goals (rw [rounds_succ]; go_wp2_with (first | (go_at_call 130; ((with_reducible refine (rgt_t s _ (by omega) (by omega)).mono ?_); rintro e w' ⟨rfl, rfl⟩)) | (go_at_call 131; ((with_reducible refine (taken_any s _ (by omega) (by omega)).mono ?_); rintro e w' ⟨rfl, rfl⟩))))
 go_ret
 exact ⟨rfl, rfl⟩
theorem refOf_1 (s : Int) (w : World) (h1 : 3 ≤ s) (h2 : s ≤ 6) : Calls Tryz.prog 83 #[.int .i64 s] w fun e w' => e = .returned (.int .i64 1) ∧ w = w' := by
 go_enter Tryz.func83, Tryz.ntmps83
 go_wp2_with (first | (go_at_call 107; ((with_reducible refine (refRgt_t s _ (by omega) (by omega)).mono ?_); rintro e w' ⟨rfl, rfl⟩)) | (go_at_call 63; ((with_reducible refine (refBlk_0 0 _ rfl).mono ?_); rintro e w' ⟨rfl, rfl⟩)) | (go_at_call 63; ((with_reducible refine (refBlk_1 1 _ rfl).mono ?_); rintro e w' ⟨rfl, rfl⟩)) | (go_at_call 63; ((with_reducible refine (refBlk_2 2 _ rfl).mono ?_); rintro e w' ⟨rfl, rfl⟩)))
 refine wp_loop_rounds 4 ?_
 repeat any_goals (rw [rounds_succ]; go_wp2_with (first | (go_at_call 107; ((with_reducible refine (refRgt_t s _ (by omega) (by omega)).mono ?_); rintro e w' ⟨rfl, rfl⟩)) | (go_at_call 63; ((with_reducible refine (refBlk_0 0 _ rfl).mono ?_); rintro e w' ⟨rfl, rfl⟩)) | (go_at_call 63; ((with_reducible refine (refBlk_1 1 _ rfl).mono ?_); rintro e w' ⟨rfl, rfl⟩)) | (go_at_call 63; ((with_reducible refine (refBlk_2 2 _ rfl).mono ?_); rintro e w' ⟨rfl, rfl⟩))))
 go_ret
 exact ⟨rfl, rfl⟩
theorem of_2 (s : Int) (w : World) (ht : Tab w) (h1 : 7 ≤ s) (h2 : s ≤ 14) : Calls Tryz.prog 111 #[.int .i64 s] w fun e w' => e = .returned (.int .i64 2) ∧ w = w' := by
 obtain ⟨t0, t1, t2⟩ := ht
 have i0 : ∀ w, (Instr.index 173 (.agg #[.int .i64 4, .int .i64 8, .int .i64 16]) (.int .i64 0)).run Tryz.prog w = .ok (.int .i64 4) w := fun _ => by kernel_rfl
 have i1 : ∀ w, (Instr.index 173 (.agg #[.int .i64 4, .int .i64 8, .int .i64 16]) (.int .i64 1)).run Tryz.prog w = .ok (.int .i64 8) w := fun _ => by kernel_rfl
 have i2 : ∀ w, (Instr.index 173 (.agg #[.int .i64 4, .int .i64 8, .int .i64 16]) (.int .i64 2)).run Tryz.prog w = .ok (.int .i64 16) w := fun _ => by kernel_rfl
 go_enter Tryz.func111, Tryz.ntmps111
 go_wp2_with (first | (go_at_call 130; ((with_reducible refine (rgt_t s _ (by omega) (by omega)).mono ?_); rintro e w' ⟨rfl, rfl⟩)) | (go_at_call 131; ((with_reducible refine (taken_any s _ (by omega) (by omega)).mono ?_); rintro e w' ⟨rfl, rfl⟩)))
 refine wp_loop_rounds 4 ?_
 repeat any_goals (rw [rounds_succ]; go_wp2_with (first | (go_at_call 130; ((with_reducible refine (rgt_t s _ (by omega) (by omega)).mono ?_); rintro e w' ⟨rfl, rfl⟩)) | (go_at_call 131; ((with_reducible refine (taken_any s _ (by omega) (by omega)).mono ?_); rintro e w' ⟨rfl, rfl⟩))))
 go_ret
 exact ⟨rfl, rfl⟩
theorem refOf_2 (s : Int) (w : World) (h1 : 7 ≤ s) (h2 : s ≤ 14) : Calls Tryz.prog 83 #[.int .i64 s] w fun e w' => e = .returned (.int .i64 2) ∧ w = w' := by
 go_enter Tryz.func83, Tryz.ntmps83
 go_wp2_with (first | (go_at_call 107; ((with_reducible refine (refRgt_t s _ (by omega) (by omega)).mono ?_); rintro e w' ⟨rfl, rfl⟩)) | (go_at_call 63; ((with_reducible refine (refBlk_0 0 _ rfl).mono ?_); rintro e w' ⟨rfl, rfl⟩)) | (go_at_call 63; ((with_reducible refine (refBlk_1 1 _ rfl).mono ?_); rintro e w' ⟨rfl, rfl⟩)) | (go_at_call 63; ((with_reducible refine (refBlk_2 2 _ rfl).mono ?_); rintro e w' ⟨rfl, rfl⟩)))
 refine wp_loop_rounds 4 ?_
 repeat any_goals (rw [rounds_succ]; go_wp2_with (first | (go_at_call 107; ((with_reducible refine (refRgt_t s _ (by omega) (by omega)).mono ?_); rintro e w' ⟨rfl, rfl⟩)) | (go_at_call 63; ((with_reducible refine (refBlk_0 0 _ rfl).mono ?_); rintro e w' ⟨rfl, rfl⟩)) | (go_at_call 63; ((with_reducible refine (refBlk_1 1 _ rfl).mono ?_); rintro e w' ⟨rfl, rfl⟩)) | (go_at_call 63; ((with_reducible refine (refBlk_2 2 _ rfl).mono ?_); rintro e w' ⟨rfl, rfl⟩))))
 go_ret
 exact ⟨rfl, rfl⟩
theorem of_3 (s : Int) (w : World) (ht : Tab w) (h1 : 15 ≤ s) (h2 : s ≤ 4096) : Calls Tryz.prog 111 #[.int .i64 s] w fun e w' => e = .returned (.int .i64 (-1)) ∧ w = w' := by
 obtain ⟨t0, t1, t2⟩ := ht
 have i0 : ∀ w, (Instr.index 173 (.agg #[.int .i64 4, .int .i64 8, .int .i64 16]) (.int .i64 0)).run Tryz.prog w = .ok (.int .i64 4) w := fun _ => by kernel_rfl
 have i1 : ∀ w, (Instr.index 173 (.agg #[.int .i64 4, .int .i64 8, .int .i64 16]) (.int .i64 1)).run Tryz.prog w = .ok (.int .i64 8) w := fun _ => by kernel_rfl
 have i2 : ∀ w, (Instr.index 173 (.agg #[.int .i64 4, .int .i64 8, .int .i64 16]) (.int .i64 2)).run Tryz.prog w = .ok (.int .i64 16) w := fun _ => by kernel_rfl
 go_enter Tryz.func111, Tryz.ntmps111
 go_wp2_with (first | (go_at_call 130; ((with_reducible refine (rgt_t s _ (by omega) (by omega)).mono ?_); rintro e w' ⟨rfl, rfl⟩)) | (go_at_call 131; ((with_reducible refine (taken_any s _ (by omega) (by omega)).mono ?_); rintro e w' ⟨rfl, rfl⟩)))
 refine wp_loop_rounds 4 ?_
 repeat any_goals (rw [rounds_succ]; go_wp2_with (first | (go_at_call 130; ((with_reducible refine (rgt_t s _ (by omega) (by omega)).mono ?_); rintro e w' ⟨rfl, rfl⟩)) | (go_at_call 131; ((with_reducible refine (taken_any s _ (by omega) (by omega)).mono ?_); rintro e w' ⟨rfl, rfl⟩))))
 go_ret
 exact ⟨rfl, rfl⟩
theorem refOf_3 (s : Int) (w : World) (h1 : 15 ≤ s) (h2 : s ≤ 4096) : Calls Tryz.prog 83 #[.int .i64 s] w fun e w' => e = .returned (.int .i64 (-1)) ∧ w = w' := by
 go_enter Tryz.func83, Tryz.ntmps83
 go_wp2_with (first | (go_at_call 107; ((with_reducible refine (refRgt_t s _ (by omega) (by omega)).mono ?_); rintro e w' ⟨rfl, rfl⟩)) | (go_at_call 63; ((with_reducible refine (refBlk_0 0 _ rfl).mono ?_); rintro e w' ⟨rfl, rfl⟩)) | (go_at_call 63; ((with_reducible refine (refBlk_1 1 _ rfl).mono ?_); rintro e w' ⟨rfl, rfl⟩)) | (go_at_call 63; ((with_reducible refine (refBlk_2 2 _ rfl).mono ?_); rintro e w' ⟨rfl, rfl⟩)))
 refine wp_loop_rounds 4 ?_
 repeat any_goals (rw [rounds_succ]; go_wp2_with (first | (go_at_call 107; ((with_reducible refine (refRgt_t s _ (by omega) (by omega)).mono ?_); rintro e w' ⟨rfl, rfl⟩)) | (go_at_call 63; ((with_reducible refine (refBlk_0 0 _ rfl).mono ?_); rintro e w' ⟨rfl, rfl⟩)) | (go_at_call 63; ((with_reducible refine (refBlk_1 1 _ rfl).mono ?_); rintro e w' ⟨rfl, rfl⟩)) | (go_at_call 63; ((with_reducible refine (refBlk_2 2 _ rfl).mono ?_); rintro e w' ⟨rfl, rfl⟩))))
 go_ret
 exact ⟨rfl, rfl⟩
theorem of_4 (s : Int) (w : World) (ht : Tab w) (h1 : 4097 ≤ s) : Calls Tryz.prog 111 #[.int .i64 s] w fun e w' => e = .returned (.int .i64 (-1)) ∧ w = w' := by
 obtain ⟨t0, t1, t2⟩ := ht
 go_enter Tryz.func111, Tryz.ntmps111
 go_wp2_with (first | (go_at_call 130; ((with_reducible refine (rgt_f s _ (by omega)).mono ?_); rintro e w' ⟨rfl, rfl⟩)))
 go_ret
 exact ⟨rfl, rfl⟩
theorem refOf_4 (s : Int) (w : World) (h1 : 4097 ≤ s) : Calls Tryz.prog 83 #[.int .i64 s] w fun e w' => e = .returned (.int .i64 (-1)) ∧ w = w' := by
 go_enter Tryz.func83, Tryz.ntmps83
 go_wp2_with (first | (go_at_call 107; ((with_reducible refine (refRgt_f s _ (by omega)).mono ?_); rintro e w' ⟨rfl, rfl⟩)) | (go_at_call 63; ((with_reducible refine (refBlk_0 0 _ rfl).mono ?_); rintro e w' ⟨rfl, rfl⟩)) | (go_at_call 63; ((with_reducible refine (refBlk_1 1 _ rfl).mono ?_); rintro e w' ⟨rfl, rfl⟩)) | (go_at_call 63; ((with_reducible refine (refBlk_2 2 _ rfl).mono ?_); rintro e w' ⟨rfl, rfl⟩)))
 refine wp_loop_rounds 4 ?_
 repeat any_goals (rw [rounds_succ]; go_wp2_with (first | (go_at_call 107; ((with_reducible refine (refRgt_f s _ (by omega)).mono ?_); rintro e w' ⟨rfl, rfl⟩)) | (go_at_call 63; ((with_reducible refine (refBlk_0 0 _ rfl).mono ?_); rintro e w' ⟨rfl, rfl⟩)) | (go_at_call 63; ((with_reducible refine (refBlk_1 1 _ rfl).mono ?_); rintro e w' ⟨rfl, rfl⟩)) | (go_at_call 63; ((with_reducible refine (refBlk_2 2 _ rfl).mono ?_); rintro e w' ⟨rfl, rfl⟩))))
 go_ret
 exact ⟨rfl, rfl⟩
theorem of_5 (s : Int) (w : World) (ht : Tab w) (h1 : s ≤ -1) : Calls Tryz.prog 111 #[.int .i64 s] w fun e w' => e = .returned (.int .i64 (-1)) ∧ w = w' := by
 obtain ⟨t0, t1, t2⟩ := ht
 go_enter Tryz.func111, Tryz.ntmps111
 go_wp2_with (first | (go_at_call 130; ((with_reducible refine (rgt_f s _ (by omega)).mono ?_); rintro e w' ⟨rfl, rfl⟩)))
 go_ret
 exact ⟨rfl, rfl⟩
theorem refOf_5 (s : Int) (w : World) (h1 : s ≤ -1) : Calls Tryz.prog 83 #[.int .i64 s] w fun e w' => e = .returned (.int .i64 (-1)) ∧ w = w' := by
 go_enter Tryz.func83, Tryz.ntmps83
 go_wp2_with (first | (go_at_call 107; ((with_reducible refine (refRgt_f s _ (by omega)).mono ?_); rintro e w' ⟨rfl, rfl⟩)) | (go_at_call 63; ((with_reducible refine (refBlk_0 0 _ rfl).mono ?_); rintro e w' ⟨rfl, rfl⟩)) | (go_at_call 63; ((with_reducible refine (refBlk_1 1 _ rfl).mono ?_); rintro e w' ⟨rfl, rfl⟩)) | (go_at_call 63; ((with_reducible refine (refBlk_2 2 _ rfl).mono ?_); rintro e w' ⟨rfl, rfl⟩)))
 refine wp_loop_rounds 4 ?_
 repeat any_goals (rw [rounds_succ]; go_wp2_with (first | (go_at_call 107; ((with_reducible refine (refRgt_f s _ (by omega)).mono ?_); rintro e w' ⟨rfl, rfl⟩)) | (go_at_call 63; ((with_reducible refine (refBlk_0 0 _ rfl).mono ?_); rintro e w' ⟨rfl, rfl⟩)) | (go_at_call 63; ((with_reducible refine (refBlk_1 1 _ rfl).mono ?_); rintro e w' ⟨rfl, rfl⟩)) | (go_at_call 63; ((with_reducible refine (refBlk_2 2 _ rfl).mono ?_); rintro e w' ⟨rfl, rfl⟩))))
 go_ret
 exact ⟨rfl, rfl⟩
theorem refOf_any_oc (s : Int) (w : World) : Calls Tryz.prog 83 #[.int .i64 s] w fun e w' => e = .returned (.int .i64 (clsI s)) ∧ w = w' := by
 by_cases a1 : s < 0
 ·rw [show clsI s = -1 by simp [clsI, a1]]; exact refOf_5 s w (by omega)
 by_cases a2 : s ≤ 2
 ·rw [show clsI s = 0 by simp [clsI, a1, a2]]; exact refOf_0 s w (by omega) a2
 by_cases a3 : s ≤ 6
 ·rw [show clsI s = 1 by simp [clsI, a1, a2, a3]]; exact refOf_1 s w (by omega) a3
 by_cases a4 : s ≤ 14
 ·rw [show clsI s = 2 by simp [clsI, a1, a2, a3, a4]]; exact refOf_2 s w (by omega) a4
 rw [show clsI s = -1 by simp [clsI, a1, a2, a3, a4]]
 by_cases a5 : s ≤ 4096
 ·exact refOf_3 s w (by omega) a5
 ·exact refOf_4 s w (by omega)
end Go.Proofs.YtdmmbnnejbmdpaaGreatDoor
end
section
namespace Go.Proofs.YtdmmbnnejbmdpaaGreatDoor
open Go.RowKit
theorem chk_0 (s : Int) (w : World) (ht : Tab w) (h1 : 0 ≤ s) (h2 : s ≤ 2) : Calls Tryz.prog 113 #[.int .i64 s] w fun e w' => e = .returned (.int .i64 0) ∧ w = w' := by
 go_enter Tryz.func113, Tryz.ntmps113
 go_wp2_with (first | (go_at_call 130; ((with_reducible refine (rgt_t s _ (by omega) (by omega)).mono ?_); rintro e w' ⟨rfl, rfl⟩)) | (go_at_call 111; ((with_reducible refine (of_0 s _ ht h1 h2).mono ?_); rintro e w' ⟨rfl, rfl⟩)) | (go_at_call 131; ((with_reducible refine (taken_any s _ (by omega) (by omega)).mono ?_); rintro e w' ⟨rfl, rfl⟩)))
 go_ret
 exact ⟨rfl, rfl⟩
theorem chk_1 (s : Int) (w : World) (ht : Tab w) (h1 : 3 ≤ s) (h2 : s ≤ 6) : Calls Tryz.prog 113 #[.int .i64 s] w fun e w' => e = .returned (.int .i64 0) ∧ w = w' := by
 go_enter Tryz.func113, Tryz.ntmps113
 go_wp2_with (first | (go_at_call 130; ((with_reducible refine (rgt_t s _ (by omega) (by omega)).mono ?_); rintro e w' ⟨rfl, rfl⟩)) | (go_at_call 111; ((with_reducible refine (of_1 s _ ht h1 h2).mono ?_); rintro e w' ⟨rfl, rfl⟩)) | (go_at_call 131; ((with_reducible refine (taken_any s _ (by omega) (by omega)).mono ?_); rintro e w' ⟨rfl, rfl⟩)))
 go_ret
 exact ⟨rfl, rfl⟩
theorem chk_2 (s : Int) (w : World) (ht : Tab w) (h1 : 7 ≤ s) (h2 : s ≤ 14) : Calls Tryz.prog 113 #[.int .i64 s] w fun e w' => e = .returned (.int .i64 0) ∧ w = w' := by
 go_enter Tryz.func113, Tryz.ntmps113
 go_wp2_with (first | (go_at_call 130; ((with_reducible refine (rgt_t s _ (by omega) (by omega)).mono ?_); rintro e w' ⟨rfl, rfl⟩)) | (go_at_call 111; ((with_reducible refine (of_2 s _ ht h1 h2).mono ?_); rintro e w' ⟨rfl, rfl⟩)) | (go_at_call 131; ((with_reducible refine (taken_any s _ (by omega) (by omega)).mono ?_); rintro e w' ⟨rfl, rfl⟩)))
 go_ret
 exact ⟨rfl, rfl⟩
theorem chk_3 (s : Int) (w : World) (ht : Tab w) (h1 : 15 ≤ s) (h2 : s ≤ 4096) : Calls Tryz.prog 113 #[.int .i64 s] w fun e w' => e = .returned (.int .i64 ((s + 33) / 32)) ∧ w = w' := by
 go_enter Tryz.func113, Tryz.ntmps113
 go_wp2_with (first | (go_at_call 130; ((with_reducible refine (rgt_t s _ (by omega) (by omega)).mono ?_); rintro e w' ⟨rfl, rfl⟩)) | (go_at_call 111; ((with_reducible refine (of_3 s _ ht h1 h2).mono ?_); rintro e w' ⟨rfl, rfl⟩)) | (go_at_call 131; ((with_reducible refine (taken_any s _ (by omega) (by omega)).mono ?_); rintro e w' ⟨rfl, rfl⟩)))
 go_ret
 exact ⟨ret_i (by omega), rfl⟩
theorem chk_4 (s : Int) (w : World) (ht : Tab w) (h1 : 4097 ≤ s) : Calls Tryz.prog 113 #[.int .i64 s] w fun e w' => e = .returned (.int .i64 0) ∧ w = w' := by
 go_enter Tryz.func113, Tryz.ntmps113
 go_wp2_with (first | (go_at_call 130; ((with_reducible refine (rgt_f s _ (by omega)).mono ?_); rintro e w' ⟨rfl, rfl⟩)) | (go_at_call 111; ((with_reducible refine (of_4 s _ ht h1).mono ?_); rintro e w' ⟨rfl, rfl⟩)) | (go_at_call 131; ((with_reducible refine (taken_any s _ (by omega) (by omega)).mono ?_); rintro e w' ⟨rfl, rfl⟩)))
 go_ret
 exact ⟨rfl, rfl⟩
theorem chk_5 (s : Int) (w : World) (ht : Tab w) (h1 : s ≤ -1) : Calls Tryz.prog 113 #[.int .i64 s] w fun e w' => e = .returned (.int .i64 0) ∧ w = w' := by
 go_enter Tryz.func113, Tryz.ntmps113
 go_wp2_with (first | (go_at_call 130; ((with_reducible refine (rgt_f s _ (by omega)).mono ?_); rintro e w' ⟨rfl, rfl⟩)) | (go_at_call 111; ((with_reducible refine (of_5 s _ ht h1).mono ?_); rintro e w' ⟨rfl, rfl⟩)) | (go_at_call 131; ((with_reducible refine (taken_any s _ (by omega) (by omega)).mono ?_); rintro e w' ⟨rfl, rfl⟩)))
 go_ret
 exact ⟨rfl, rfl⟩
theorem refChk_0 (s : Int) (w : World) (h1 : 0 ≤ s) (h2 : s ≤ 2) : Calls Tryz.prog 84 #[.int .i64 s] w fun e w' => e = .returned (.int .i64 0) ∧ w = w' := by
 go_enter Tryz.func84, Tryz.ntmps84
 go_wp2_with (first | (go_at_call 107; ((with_reducible refine (refRgt_t s _ (by omega) (by omega)).mono ?_); rintro e w' ⟨rfl, rfl⟩)) | (go_at_call 83; ((with_reducible refine (refOf_0 s _ h1 h2).mono ?_); rintro e w' ⟨rfl, rfl⟩)))
 refine wp_loop_rounds 1 ?_
 rw [rounds_succ]
 go_wp2_with (go_at_call 83; ((with_reducible refine (refOf_0 s _ h1 h2).mono ?_); rintro e w' ⟨rfl, rfl⟩))
 go_ret
 exact ⟨rfl, rfl⟩
theorem refChk_1 (s : Int) (w : World) (h1 : 3 ≤ s) (h2 : s ≤ 6) : Calls Tryz.prog 84 #[.int .i64 s] w fun e w' => e = .returned (.int .i64 0) ∧ w = w' := by
 go_enter Tryz.func84, Tryz.ntmps84
 go_wp2_with (first | (go_at_call 107; ((with_reducible refine (refRgt_t s _ (by omega) (by omega)).mono ?_); rintro e w' ⟨rfl, rfl⟩)) | (go_at_call 83; ((with_reducible refine (refOf_1 s _ h1 h2).mono ?_); rintro e w' ⟨rfl, rfl⟩)))
 refine wp_loop_rounds 1 ?_
 rw [rounds_succ]
 go_wp2_with (go_at_call 83; ((with_reducible refine (refOf_1 s _ h1 h2).mono ?_); rintro e w' ⟨rfl, rfl⟩))
 go_ret
 exact ⟨rfl, rfl⟩
theorem refChk_2 (s : Int) (w : World) (h1 : 7 ≤ s) (h2 : s ≤ 14) : Calls Tryz.prog 84 #[.int .i64 s] w fun e w' => e = .returned (.int .i64 0) ∧ w = w' := by
 go_enter Tryz.func84, Tryz.ntmps84
 go_wp2_with (first | (go_at_call 107; ((with_reducible refine (refRgt_t s _ (by omega) (by omega)).mono ?_); rintro e w' ⟨rfl, rfl⟩)) | (go_at_call 83; ((with_reducible refine (refOf_2 s _ h1 h2).mono ?_); rintro e w' ⟨rfl, rfl⟩)))
 refine wp_loop_rounds 1 ?_
 rw [rounds_succ]
 go_wp2_with (go_at_call 83; ((with_reducible refine (refOf_2 s _ h1 h2).mono ?_); rintro e w' ⟨rfl, rfl⟩))
 go_ret
 exact ⟨rfl, rfl⟩
theorem refChk_3 (s : Int) (w : World) (h1 : 15 ≤ s) (h2 : s ≤ 4096) : Calls Tryz.prog 84 #[.int .i64 s] w fun e w' => e = .returned (.int .i64 ((s + 33) / 32)) ∧ w = w' := by
 go_enter Tryz.func84, Tryz.ntmps84
 go_wp2_with (first | (go_at_call 107; ((with_reducible refine (refRgt_t s _ (by omega) (by omega)).mono ?_); rintro e w' ⟨rfl, rfl⟩)) | (go_at_call 83; ((with_reducible refine (refOf_3 s _ h1 h2).mono ?_); rintro e w' ⟨rfl, rfl⟩)))
 go_loop [4] (fun n => ∃ k : Nat, n = .int .i64 k ∧ (k = 0 ∨ 32 * ((k : Int) - 1) < s + 2)) (fun n => 200 - (intOf n).toNat)
 case atStart => exact ⟨0, rfl, .inl rfl⟩
 case round =>
  obtain ⟨k, rfl, hk⟩ := hrel
  have hk2 : (k : Int) ≤ 190 := by omega
  by_cases hlt : 32 * (k : Int) < s + 2
  ·clear hk
   go_wp2_with (go_at_call 83; ((with_reducible refine (refOf_3 s _ h1 h2).mono ?_); rintro e w' ⟨rfl, rfl⟩))
   go_round
   case rel => exact ⟨k + 1, by go_num, .inr (by omega)⟩
   case measure => simp [intOf]; omega
  ·have Hk := lh hk
   clear hk
   go_wp2_with (go_at_call 83; ((with_reducible refine (refOf_3 s _ h1 h2).mono ?_); rintro e w' ⟨rfl, rfl⟩))
   go_ret
   have hk := Hk.out
   exact ⟨ret_i (by omega), rfl⟩
theorem refChk_4 (s : Int) (w : World) (h1 : 4097 ≤ s) : Calls Tryz.prog 84 #[.int .i64 s] w fun e w' => e = .returned (.int .i64 0) ∧ w = w' := by
 go_enter Tryz.func84, Tryz.ntmps84
 go_wp2_with (first | (go_at_call 107; ((with_reducible refine (refRgt_f s _ (by omega)).mono ?_); rintro e w' ⟨rfl, rfl⟩)) | (go_at_call 83; ((with_reducible refine (refOf_4 s _ h1).mono ?_); rintro e w' ⟨rfl, rfl⟩)))
 refine wp_loop_rounds 1 ?_
 rw [rounds_succ]
 go_wp2_with (go_at_call 83; ((with_reducible refine (refOf_4 s _ h1).mono ?_); rintro e w' ⟨rfl, rfl⟩))
 go_ret
 exact ⟨rfl, rfl⟩
theorem refChk_5 (s : Int) (w : World) (h1 : s ≤ -1) : Calls Tryz.prog 84 #[.int .i64 s] w fun e w' => e = .returned (.int .i64 0) ∧ w = w' := by
 go_enter Tryz.func84, Tryz.ntmps84
 go_wp2_with (first | (go_at_call 107; ((with_reducible refine (refRgt_f s _ (by omega)).mono ?_); rintro e w' ⟨rfl, rfl⟩)) | (go_at_call 83; ((with_reducible refine (refOf_5 s _ h1).mono ?_); rintro e w' ⟨rfl, rfl⟩)))
 refine wp_loop_rounds 1 ?_
 rw [rounds_succ]
 go_wp2_with (go_at_call 83; ((with_reducible refine (refOf_5 s _ h1).mono ?_); rintro e w' ⟨rfl, rfl⟩))
 go_ret
 exact ⟨rfl, rfl⟩
theorem refChk_any (s : Int) (w : World) : Calls Tryz.prog 84 #[.int .i64 s] w fun e w' => e = .returned (.int .i64 (chkI s)) ∧ w = w' := by
 by_cases a4 : 15 ≤ s ∧ s ≤ 4096
 ·rw [show chkI s = (s + 33) / 32 by simp [chkI, a4]]; exact refChk_3 s w a4.1 a4.2
 rw [show chkI s = 0 by simp only [chkI, a4, if_false]]
 by_cases a1 : s < 0
 ·exact refChk_5 s w (by omega)
 by_cases a2 : s ≤ 2
 ·exact refChk_0 s w (by omega) a2
 by_cases a3 : s ≤ 6
 ·exact refChk_1 s w (by omega) a3
 by_cases a5 : s ≤ 14
 ·exact refChk_2 s w (by omega) a5
 ·exact refChk_4 s w (by omega)
theorem rom_0 (s : Int) (w : World) (ht : Tab w) (h1 : 0 ≤ s) (h2 : s ≤ 2) : Calls Tryz.prog 87 #[.int .i64 s] w fun e w' => e = .returned (.int .i64 4) ∧ w = w' := by
 go_enter Tryz.func87, Tryz.ntmps87
 go_wp2_with (first | (go_at_call 111; ((with_reducible refine (of_0 s _ ht h1 h2).mono ?_); rintro e w' ⟨rfl, rfl⟩)) | (go_at_call 113; ((with_reducible refine (chk_0 s _ ht h1 h2).mono ?_); rintro e w' ⟨rfl, rfl⟩)) | (go_at_call 112; ((with_reducible refine (blk_0 0 _ ht rfl).mono ?_); rintro e w' ⟨rfl, rfl⟩)))
 go_ret
 exact ⟨rfl, rfl⟩
theorem rom_1 (s : Int) (w : World) (ht : Tab w) (h1 : 3 ≤ s) (h2 : s ≤ 6) : Calls Tryz.prog 87 #[.int .i64 s] w fun e w' => e = .returned (.int .i64 8) ∧ w = w' := by
 go_enter Tryz.func87, Tryz.ntmps87
 go_wp2_with (first | (go_at_call 111; ((with_reducible refine (of_1 s _ ht h1 h2).mono ?_); rintro e w' ⟨rfl, rfl⟩)) | (go_at_call 113; ((with_reducible refine (chk_1 s _ ht h1 h2).mono ?_); rintro e w' ⟨rfl, rfl⟩)) | (go_at_call 112; ((with_reducible refine (blk_1 1 _ ht rfl).mono ?_); rintro e w' ⟨rfl, rfl⟩)))
 go_ret
 exact ⟨rfl, rfl⟩
theorem rom_2 (s : Int) (w : World) (ht : Tab w) (h1 : 7 ≤ s) (h2 : s ≤ 14) : Calls Tryz.prog 87 #[.int .i64 s] w fun e w' => e = .returned (.int .i64 16) ∧ w = w' := by
 go_enter Tryz.func87, Tryz.ntmps87
 go_wp2_with (first | (go_at_call 111; ((with_reducible refine (of_2 s _ ht h1 h2).mono ?_); rintro e w' ⟨rfl, rfl⟩)) | (go_at_call 113; ((with_reducible refine (chk_2 s _ ht h1 h2).mono ?_); rintro e w' ⟨rfl, rfl⟩)) | (go_at_call 112; ((with_reducible refine (blk_2 2 _ ht rfl).mono ?_); rintro e w' ⟨rfl, rfl⟩)))
 go_ret
 exact ⟨rfl, rfl⟩
theorem rom_3 (s : Int) (w : World) (ht : Tab w) (h1 : 15 ≤ s) (h2 : s ≤ 4096) : Calls Tryz.prog 87 #[.int .i64 s] w fun e w' => e = .returned (.int .i64 ((s + 33) / 32 * 32)) ∧ w = w' := by
 go_enter Tryz.func87, Tryz.ntmps87
 go_wp2_with (first | (go_at_call 111; ((with_reducible refine (of_3 s _ ht h1 h2).mono ?_); rintro e w' ⟨rfl, rfl⟩)) | (go_at_call 113; ((with_reducible refine (chk_3 s _ ht h1 h2).mono ?_); rintro e w' ⟨rfl, rfl⟩)))
 go_ret
 exact ⟨rfl, rfl⟩
theorem rom_4 (s : Int) (w : World) (ht : Tab w) (h1 : 4097 ≤ s) : Calls Tryz.prog 87 #[.int .i64 s] w fun e w' => e = .returned (.int .i64 0) ∧ w = w' := by
 go_enter Tryz.func87, Tryz.ntmps87
 go_wp2_with (first | (go_at_call 111; ((with_reducible refine (of_4 s _ ht h1).mono ?_); rintro e w' ⟨rfl, rfl⟩)) | (go_at_call 113; ((with_reducible refine (chk_4 s _ ht h1).mono ?_); rintro e w' ⟨rfl, rfl⟩)))
 go_ret
 exact ⟨rfl, rfl⟩
theorem rom_5 (s : Int) (w : World) (ht : Tab w) (h1 : s ≤ -1) : Calls Tryz.prog 87 #[.int .i64 s] w fun e w' => e = .returned (.int .i64 0) ∧ w = w' := by
 go_enter Tryz.func87, Tryz.ntmps87
 go_wp2_with (first | (go_at_call 111; ((with_reducible refine (of_5 s _ ht h1).mono ?_); rintro e w' ⟨rfl, rfl⟩)) | (go_at_call 113; ((with_reducible refine (chk_5 s _ ht h1).mono ?_); rintro e w' ⟨rfl, rfl⟩)))
 go_ret
 exact ⟨rfl, rfl⟩
def romJ (s : Int) : Int := if s < 0 then 0 else if s ≤ 2 then 4 else if s ≤ 6 then 8 else if s ≤ 14 then 16 else if s ≤ 4096 then (s + 33) / 32 * 32 else 0
theorem rom_any (s : Int) (w : World) (ht : Tab w) : Calls Tryz.prog 87 #[.int .i64 s] w fun e w' => e = .returned (.int .i64 (romJ s)) ∧ w = w' := by
 by_cases a1 : s < 0
 ·rw [show romJ s = 0 by simp [romJ, a1]]; exact rom_5 s w ht (by omega)
 by_cases a2 : s ≤ 2
 ·rw [show romJ s = 4 by simp [romJ, a1, a2]]; exact rom_0 s w ht (by omega) a2
 by_cases a3 : s ≤ 6
 ·rw [show romJ s = 8 by simp [romJ, a1, a2, a3]]; exact rom_1 s w ht (by omega) a3
 by_cases a5 : s ≤ 14
 ·rw [show romJ s = 16 by simp [romJ, a1, a2, a3, a5]]; exact rom_2 s w ht (by omega) a5
 by_cases a6 : s ≤ 4096
 ·rw [show romJ s = (s + 33) / 32 * 32 by simp [romJ, a1, a2, a3, a5, a6]]; exact rom_3 s w ht (by omega) a6
 ·rw [show romJ s = 0 by simp [romJ, a1, a2, a3, a5, a6]]; exact rom_4 s w ht (by omega)
end Go.Proofs.YtdmmbnnejbmdpaaGreatDoor
end
