/-
  The laws of package span: the chapter's example.
-/
import Derived.Test.YthklgmpphfdfoaaSpan7
set_option linter.unusedVariables false
namespace Go.Proofs.Ythklgmpphfdfoaa
open Go.RowKit

theorem PL.lit (w : World) (l : List Sp) (hl : l.length ≤ 1000) : PL (w.alloc (.cells (spv l).toArray (45 : Nat))) (.slice (some ⟨w.heap.size, 0, none⟩) l.length l.length) l := by
  have := World.ownsRow_lit (base := w.heap.size) (e := 45) (size := 2) w (spv l).toArray l.length (Nat.le_refl _) (by unfold maxLen; omega) (by simp [spv_len])
  exact OwnSp.pl (base := w.heap.size) this
set_option maxHeartbeats 2000000 in
theorem awake04 (w : World) : Calls Try.prog 23 #[] w fun e w' => e = .returned (.bool true) ∧ Below w.heap.size w w' := by
  have hA := Lib.hid (fun (w : World) => add_any (.slice (some ⟨w.heap.size, 0, none⟩) 2 2) [(2, 3), (8, 2)] (5, 3) _ (by unfold SBs SB; decide) (by decide) (by unfold SB; decide) (PL.lit w [(2, 3), (8, 2)] (by decide)))
  have hM := Lib.hid (fun v (w : World) (hv : PL w v [(2, 8)]) => missing_any v [(2, 8)] (0, 12) w (by unfold SBs SB; decide) (by decide) (by unfold SB; decide) hv)
  have hS1 := Lib.hid (fun v (w : World) (hv : PL w v [(2, 8)]) => same_any v (.slice (some ⟨w.heap.size, 0, none⟩) 1 1) [(2, 8)] [(2, 8)] _ (by decide) (hv.keep ((Below.refl _ _).alloc (Nat.le_refl _) _)) (PL.lit w [(2, 8)] (by decide)))
  have hS2 := Lib.hid (fun v (w : World) (hv : PL w v [(0, 2), (10, 2)]) => same_any v (.slice (some ⟨w.heap.size, 0, none⟩) 2 2) [(0, 2), (10, 2)] [(0, 2), (10, 2)] _ (by decide) (hv.keep ((Below.refl _ _).alloc (Nat.le_refl _) _)) (PL.lit w [(0, 2), (10, 2)] (by decide)))
  have hR := Lib.hid (fun v (w : World) (hv : PL w v [(2, 8)]) => right_any v [(2, 8)] w (by unfold SBs SB; decide) (by decide) hv)
  have hT := Lib.hid (fun v (w : World) (hv : PL w v [(2, 8)]) => total_any v [(2, 8)] w (by unfold SBs SB; decide) (by decide) hv)
  rw [show addS [(2, 3), (8, 2)] (5, 3) = [(2, 8)] by decide +kernel] at hA
  rw [show missS [(2, 8)] (0, 12) = [(0, 2), (10, 2)] by decide +kernel] at hM
  rw [show decide (([(2, 8)] : List Sp) = [(2, 8)]) = true by decide +kernel] at hS1
  rw [show decide (([(0, 2), (10, 2)] : List Sp) = [(0, 2), (10, 2)]) = true by decide +kernel] at hS2
  rw [show rightB [(2, 8)] = true from (rightB_iff _).2 (SRight.one.2 (by decide))] at hR
  rw [show totS [(2, 8)] = 8 by decide +kernel] at hT
  simp only [spv] at hA hM hS1 hS2
  go_enter Try.func23, Try.ntmps23
  go_wp2_with fail
  refine (hA.out _).mono ?_
  rintro e w1 ⟨v1, rfl, ho1, hb1⟩
  have hB1 : Below w.heap.size w w1 := ((Below.refl _ _).alloc (Nat.le_refl _) _).trans (hb1.mono (by simp))
  have hp1 := ho1.pl
  clear ho1 hb1
  go_wp2_with fail
  refine (hM.out _ _ hp1).mono ?_
  rintro e w2 ⟨v2, rfl, ho2, hb2⟩
  have hB2 := hB1.trans (hb2.mono hB1.size)
  have hp2 := ho2.pl
  replace hp1 := hp1.keep hb2
  clear ho2 hb2 hB1
  go_wp2_with fail
  refine (hS1.out _ _ hp1).mono ?_
  rintro e w3 ⟨rfl, hb3⟩
  have hB3 : Below w.heap.size w w3 := (hB2.alloc hB2.size _).trans (hb3.mono (by have := hB2.size; simp; omega))
  replace hp1 := (hp1.keep ((Below.refl _ _).alloc (Nat.le_refl _) _)).keep hb3
  replace hp2 := (hp2.keep ((Below.refl _ _).alloc (Nat.le_refl _) _)).keep hb3
  clear hb3 hB2
  go_wp2_with fail
  refine (hS2.out _ _ hp2).mono ?_
  rintro e w4 ⟨rfl, hb4⟩
  have hB4 : Below w.heap.size w w4 := (hB3.alloc hB3.size _).trans (hb4.mono (by have := hB3.size; simp; omega))
  replace hp1 := (hp1.keep ((Below.refl _ _).alloc (Nat.le_refl _) _)).keep hb4
  clear hb4 hB3 hp2
  go_wp2_with fail
  refine (hR.out _ _ hp1).mono ?_
  rintro e w5 ⟨rfl, hb5⟩
  have hB5 := hB4.trans (hb5.mono hB4.size)
  replace hp1 := hp1.keep hb5
  clear hb5 hB4
  go_wp2_with fail
  refine (hT.out _ _ hp1).mono ?_
  rintro e w6 ⟨rfl, hb6⟩
  have hB6 := hB5.trans (hb6.mono hB5.size)
  clear hb6 hB5 hp1
  go_wp2_with fail
  go_ret
  exact ⟨rfl, hB6⟩
end Go.Proofs.Ythklgmpphfdfoaa
