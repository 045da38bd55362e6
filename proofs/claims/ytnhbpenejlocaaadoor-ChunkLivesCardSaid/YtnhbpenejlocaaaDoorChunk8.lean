/-
  What the document's answers for chunk answer: Encode, Empty, Bit.
-/
import Derived.Test.YtnhbpenejlocaaaDoorChunk7
set_option linter.unusedVariables false
namespace Go.Proofs.YtnhbpenejlocaaaDoor
open Go.RowKit

set_option maxHeartbeats 1000000 in
theorem refEnc_yes (k c l m b : Int) (w : World) (hw : Lw w) (b0 : 0 ≤ b) (h : rightB k c l m b = true) :
    Calls Tryd.prog 30 #[.agg #[.int .i64 k, .int .i64 c, .int .i64 l, .int .i64 m, .int .u64 b]] w fun e w' => e = .returned (.tuple #[.int .u64 (wordI k c l m b), .int .i64 0]) ∧ Below w.heap.size w w' := by
  have hr := rightB_t h
  have hbd : 0 ≤ k ∧ k < 8 ∧ 0 ≤ c ∧ c < 4 ∧ 0 ≤ l ∧ l < 64 ∧ 0 ≤ m ∧ m < 8192 ∧ b < 256 := by unfold RightP at hr; omega
  obtain ⟨k0, k1, c0, c1, l0, l1, m0, m1, b1⟩ := hbd
  have H := Lib.hid h
  clear h hr
  have hw1 := Lib.hid (hw.alloc (.cells #[.int .i64 k, .int .i64 c, .int .i64 l, .int .i64 m, .int .u64 b] 47))
  have f1 : IntKind.u64.wrap k = k := by rw [IntKind.wrap_u64]; omega
  have f2 : IntKind.u64.wrap c = c := by rw [IntKind.wrap_u64]; omega
  have f3 : IntKind.u64.wrap l = l := by rw [IntKind.wrap_u64]; omega
  have f4 : IntKind.u64.wrap m = m := by rw [IntKind.wrap_u64]; omega
  have g1 : IntKind.u64.wrap (8 * c) = 8 * c := by rw [IntKind.wrap_u64]; omega
  have g2 : IntKind.u64.wrap (32 * l) = 32 * l := by rw [IntKind.wrap_u64]; omega
  have g3 : IntKind.u64.wrap (2048 * m) = 2048 * m := by rw [IntKind.wrap_u64]; omega
  have g4 : IntKind.u64.wrap (16777216 * b) = 16777216 * b := by rw [IntKind.wrap_u64]; omega
  have s1 : IntKind.u64.wrap (k + 8 * c) = k + 8 * c := by rw [IntKind.wrap_u64]; omega
  have s2 : IntKind.u64.wrap (k + 8 * c + 32 * l) = k + 8 * c + 32 * l := by rw [IntKind.wrap_u64]; omega
  have s3 : IntKind.u64.wrap (k + 8 * c + 32 * l + 2048 * m) = k + 8 * c + 32 * l + 2048 * m := by rw [IntKind.wrap_u64]; omega
  have s4 : IntKind.u64.wrap (k + 8 * c + 32 * l + 2048 * m + 16777216 * b) = k + 8 * c + 32 * l + 2048 * m + 16777216 * b := by rw [IntKind.wrap_u64]; omega
  go_enter Tryd.func30, Tryd.ntmps30
  go_wp2_with fail
  refine (refRight_any k c l m b _ hw1.out.2.2.1 hw1.out.2.2.2.1 b0).mono ?_
  rw [H.out]
  rintro e w1 ⟨rfl, hb1⟩
  have kb := (C5.new w k c l m b 47).keep hb1
  have hB1 : Below w.heap.size w w1 := ((Below.refl _ w).alloc (Nat.le_refl _) _).trans (hb1.mono (by simp))
  obtain ⟨v0, v1, v2, v3, v4⟩ := kb
  go_wp2_with fail
  go_ret2
  exact ⟨by first | rfl | (rw [s4]; rfl) | (simp only [f1, f2, f3, f4, g1, g2, g3, g4, s1, s2, s3, s4]; rfl), hB1⟩
set_option maxHeartbeats 1000000 in
theorem refEnc_no (k c l m b : Int) (w : World) (hw : Lw w) (b0 : 0 ≤ b) (h : rightB k c l m b = false) :
    Calls Tryd.prog 30 #[.agg #[.int .i64 k, .int .i64 c, .int .i64 l, .int .i64 m, .int .u64 b]] w fun e w' => e = .returned (.tuple #[.int .u64 0, .int .i64 1]) ∧ Below w.heap.size w w' := by
  have H := Lib.hid h
  clear h
  have hw1 := Lib.hid (hw.alloc (.cells #[.int .i64 k, .int .i64 c, .int .i64 l, .int .i64 m, .int .u64 b] 47))
  go_enter Tryd.func30, Tryd.ntmps30
  go_wp2_with fail
  refine (refRight_any k c l m b _ hw1.out.2.2.1 hw1.out.2.2.2.1 b0).mono ?_
  rw [H.out]
  rintro e w1 ⟨rfl, hb1⟩
  have hB1 : Below w.heap.size w w1 := ((Below.refl _ w).alloc (Nat.le_refl _) _).trans (hb1.mono (by simp))
  go_wp2_with fail
  go_ret2
  exact ⟨rfl, hB1⟩

set_option maxHeartbeats 400000 in
theorem refEmpty_any (k c l m b : Int) (w : World) :
    Calls Tryd.prog 38 #[.agg #[.int .i64 k, .int .i64 c, .int .i64 l, .int .i64 m, .int .u64 b]] w fun e w' => e = .returned (.bool (decide (k = 1 ∧ b = 0))) ∧ Below w.heap.size w w' := by
  by_cases hk : k = 1
  · by_cases hb : b = 0
    · subst hk hb
      go_enter Tryd.func38, Tryd.ntmps38
      go_wp2_with fail
      go_ret
      exact ⟨ret_b (by simp), (Below.refl _ _).alloc (Nat.le_refl _) _⟩
    · subst hk
      go_enter Tryd.func38, Tryd.ntmps38
      go_wp2_with fail
      go_ret
      exact ⟨ret_b (by simp [hb]), (Below.refl _ _).alloc (Nat.le_refl _) _⟩
  · go_enter Tryd.func38, Tryd.ntmps38
    go_wp2_with fail
    go_ret
    exact ⟨ret_b (by simp [hk]), (Below.refl _ _).alloc (Nat.le_refl _) _⟩

set_option maxHeartbeats 400000 in
theorem refBit_no (i : Int) (w : World) (h : i < 0 ∨ 7 < i) :
    Calls Tryd.prog 36 #[.int .i64 i] w fun e w' => e = .returned (.int .u64 0) ∧ w = w' := by
  by_cases h0 : i < 0
  · go_enter Tryd.func36, Tryd.ntmps36
    go_wp2_with fail
    go_ret
    exact ⟨rfl, rfl⟩
  · have h7 : 7 < i := by omega
    have h8 : ¬ i < 0 := h0
    clear h
    go_enter Tryd.func36, Tryd.ntmps36
    go_wp2_with fail
    go_ret
    exact ⟨rfl, rfl⟩
theorem pwI_bd (i : Nat) (h : i ≤ 7) : 0 ≤ pwI i ∧ pwI i ≤ 128 := by
  have : i = 0 ∨ i = 1 ∨ i = 2 ∨ i = 3 ∨ i = 4 ∨ i = 5 ∨ i = 6 ∨ i = 7 := by omega
  rcases this with h | h | h | h | h | h | h | h <;> subst h <;> decide +kernel
set_option maxHeartbeats 400000 in
theorem refBit_yes (i : Nat) (w : World) (h1 : i ≤ 7) :
    Calls Tryd.prog 36 #[.int .i64 i] w fun e w' => e = .returned (.int .u64 (16777216 * pwI i)) ∧ w = w' := by
  have hbd := pwI_bd i h1
  obtain ⟨hq0, hq1⟩ := hbd
  have g4 : IntKind.u64.wrap (16777216 * pwI i) = 16777216 * pwI i := by rw [IntKind.wrap_u64]; omega
  have h7 : ¬ 7 < (i : Int) := by omega
  have h8 : ¬ (i : Int) < 0 := by omega
  have hR := Lib.hid (fun w => refPower10 i w (by omega))
  go_enter Tryd.func36, Tryd.ntmps36
  go_wp2_with fail
  refine (hR.out _).mono ?_
  rintro e w' ⟨rfl, rfl⟩
  go_wp2_with fail
  go_ret
  exact ⟨by first | rfl | (rw [g4]), rfl⟩
end Go.Proofs.YtnhbpenejlocaaaDoor
