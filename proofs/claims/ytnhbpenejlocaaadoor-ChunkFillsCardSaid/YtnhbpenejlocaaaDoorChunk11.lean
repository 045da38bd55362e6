/-
  The laws of package chunk: the chapter's example.
-/
import Derived.Test.YtnhbpenejlocaaaDoorChunk10
set_option linter.unusedVariables false
namespace Go.Proofs.YtnhbpenejlocaaaDoor
open Go.RowKit

theorem bit_any (i : Nat) (w : World) (hw : Lw w) (hi : i ≤ 7) :
    Calls Tryd.prog 35 #[.int .i64 i] w fun e w' => e = .returned (.int .u64 (16777216 * pwI i)) ∧ Below w.heap.size w w' := by
  have h : i = 0 ∨ i = 1 ∨ i = 2 ∨ i = 3 ∨ i = 4 ∨ i = 5 ∨ i = 6 ∨ i = 7 := by omega
  rcases h with rfl | rfl | rfl | rfl | rfl | rfl | rfl | rfl
  · exact bit_0 w hw
  · exact bit_1 w hw
  · exact bit_2 w hw
  · exact bit_3 w hw
  · exact bit_4 w hw
  · exact bit_5 w hw
  · exact bit_6 w hw
  · exact bit_7 w hw
theorem dec_yes (x : Int) (w : World) (hw : Lw w) (h0 : 0 ≤ x) (h1 : x < 18446744073709551616) (h : decB x = true) :
    Calls Tryd.prog 33 #[.int .u64 x] w fun e w' => e = .returned (.tuple #[.agg #[.int .i64 (getI x 0 3), .int .i64 (getI x 3 2), .int .i64 (getI x 5 6), .int .i64 (getI x 11 13), .int .u64 (getI x 24 8)], .bool true]) ∧ Below w.heap.size w w' := by
  have := decode_any x w hw h0 h1
  rwa [show decV x = .agg #[.int .i64 (getI x 0 3), .int .i64 (getI x 3 2), .int .i64 (getI x 5 6), .int .i64 (getI x 11 13), .int .u64 (getI x 24 8)] by unfold decV; rw [if_pos h], h] at this
theorem dec_no (x : Int) (w : World) (hw : Lw w) (h0 : 0 ≤ x) (h1 : x < 18446744073709551616) (h : decB x = false) :
    Calls Tryd.prog 33 #[.int .u64 x] w fun e w' => e = .returned (.tuple #[.agg #[.int .i64 0, .int .i64 0, .int .i64 0, .int .i64 0, .int .u64 0], .bool false]) ∧ Below w.heap.size w w' := by
  have := decode_any x w hw h0 h1
  rwa [show decV x = .agg #[.int .i64 0, .int .i64 0, .int .i64 0, .int .i64 0, .int .u64 0] by unfold decV; rw [if_neg (by simp [h])], h] at this
/-- what a chunk that can be is told by is its own -/
theorem word_parts (k c l m b : Int) (k0 : 0 ≤ k) (k1 : k < 8) (c0 : 0 ≤ c) (c1 : c < 4) (l0 : 0 ≤ l) (l1 : l < 64) (m0 : 0 ≤ m) (m1 : m < 8192) (b0 : 0 ≤ b) (b1 : b < 256) :
    getI (wordI k c l m b) 0 3 = k ∧ getI (wordI k c l m b) 3 2 = c ∧ getI (wordI k c l m b) 5 6 = l ∧ getI (wordI k c l m b) 11 13 = m ∧ getI (wordI k c l m b) 24 8 = b ∧ 0 ≤ wordI k c l m b ∧ wordI k c l m b < 4294967296 := by
  have hx : 0 ≤ wordI k c l m b ∧ wordI k c l m b < 4294967296 := by unfold wordI; omega
  obtain ⟨g0, g1, g2, g3, g4⟩ := gets (wordI k c l m b) hx.1
  rw [g0, g1, g2, g3, g4]
  refine ⟨?_, ?_, ?_, ?_, ?_, hx.1, hx.2⟩ <;> (unfold wordI; omega)
theorem right_bd {k c l m b : Int} (h : rightB k c l m b = true) (b0 : 0 ≤ b) : 0 ≤ k ∧ k < 8 ∧ 0 ≤ c ∧ c < 4 ∧ 0 ≤ l ∧ l < 64 ∧ 0 ≤ m ∧ m < 8192 ∧ b < 256 := by
  have hr := rightB_t h
  unfold RightP at hr; omega
/-- what is encoded is decoded -/
theorem dec_word (k c l m b : Int) (w : World) (hw : Lw w) (b0 : 0 ≤ b) (h : rightB k c l m b = true) :
    Calls Tryd.prog 33 #[.int .u64 (wordI k c l m b)] w fun e w' => e = .returned (.tuple #[.agg #[.int .i64 k, .int .i64 c, .int .i64 l, .int .i64 m, .int .u64 b], .bool true]) ∧ Below w.heap.size w w' := by
  obtain ⟨k0, k1, c0, c1, l0, l1, m0, m1, b1⟩ := right_bd h b0
  obtain ⟨g0, g1, g2, g3, g4, x0, x1⟩ := word_parts k c l m b k0 k1 c0 c1 l0 l1 m0 m1 b0 b1
  have hd : decB (wordI k c l m b) = true := by unfold decB; rw [g0, g1, g2, g3, g4, h]; simpa using x1
  have := dec_yes (wordI k c l m b) w hw x0 (by omega) hd
  rwa [g0, g1, g2, g3, g4] at this

set_option maxHeartbeats 1000000 in
theorem awake10 (w : World) (hw : Lw w) :
    Calls Tryd.prog 28 #[] w fun e w' => e = .returned (.bool true) ∧ Below w.heap.size w w' := by
  have hE := Lib.hid (fun w (hw : Lw w) => show Calls Tryd.prog 29 #[.agg #[.int .i64 1, .int .i64 2, .int .i64 0, .int .i64 0, .int .u64 2]] w fun e w' => e = .returned (.tuple #[.int .u64 33554449, .int .i64 0]) ∧ Below w.heap.size w w' from by
    have := enc_yes 1 2 0 0 2 w hw (by decide) (by decide +kernel)
    rwa [show wordI 1 2 0 0 2 = 33554449 by decide +kernel] at this)
  have hD := Lib.hid (fun w (hw : Lw w) => show Calls Tryd.prog 33 #[.int .u64 33554449] w fun e w' => e = .returned (.tuple #[.agg #[.int .i64 1, .int .i64 2, .int .i64 0, .int .i64 0, .int .u64 2], .bool true]) ∧ Below w.heap.size w w' from by
    have := dec_word 1 2 0 0 2 w hw (by decide) (by decide +kernel)
    rwa [show wordI 1 2 0 0 2 = 33554449 by decide +kernel] at this)
  have hR := Lib.hid (fun w (hw : Lw w) => show Calls Tryd.prog 39 #[.agg #[.int .i64 1, .int .i64 2, .int .i64 0, .int .i64 0, .int .u64 2]] w fun e w' => e = .returned (.int .i64 0) ∧ Below w.heap.size w w' from by
    have := room_run 2 0 0 2 w hw (by decide)
    rwa [show roomI 2 2 = 0 by decide +kernel] at this)
  have hB := Lib.hid (fun w (hw : Lw w) => show Calls Tryd.prog 35 #[.int .i64 1] w fun e w' => e = .returned (.int .u64 33554432) ∧ Below w.heap.size w w' from bit_1 w hw)
  have hM := Lib.hid (fun w => show Calls Tryd.prog 37 #[.agg #[.int .i64 1, .int .i64 0, .int .i64 0, .int .i64 0, .int .u64 0]] w fun e w' => e = .returned (.bool true) ∧ Below w.heap.size w w' from by
    have := empty_any 1 0 0 0 0 w
    rwa [show decide ((1 : Int) = 1 ∧ (0 : Int) = 0) = true by decide +kernel] at this)
  have hw0 := Lib.hid hw
  clear hw
  go_enter Tryd.func28, Tryd.ntmps28
  go_wp2_with fail
  refine (hE.out _ hw0.out).mono ?_
  rintro e w1 ⟨rfl, hb1⟩
  have hw1 := Lib.hid (hw0.out.keep hb1)
  go_wp2_with fail
  refine (hD.out _ hw1.out).mono ?_
  rintro e w2 ⟨rfl, hb2⟩
  have hB2 : Below w.heap.size w w2 := hb1.trans (hb2.mono hb1.size)
  have hw2 := Lib.hid (hw1.out.keep hb2)
  clear hb1 hb2
  go_wp2_with fail
  refine (hR.out _ (hw2.out.alloc _)).mono ?_
  rintro e w3 ⟨rfl, hb3⟩
  have hw3 := Lib.hid ((hw2.out.alloc _).keep hb3)
  have hB3 : Below w.heap.size w w3 := (hB2.alloc hB2.size _).trans (hb3.mono (by have := hB2.size; simp; omega))
  go_wp2_with fail
  refine (hB.out _ hw3.out).mono ?_
  rintro e w4 ⟨rfl, hb4⟩
  have hw4 := Lib.hid (hw3.out.keep hb4)
  have hB4 : Below w.heap.size w w4 := hB3.trans (hb4.mono hB3.size)
  go_wp2_with fail
  refine (hM.out _).mono ?_
  rintro e w5 ⟨rfl, hb5⟩
  have hB5 : Below w.heap.size w w5 := hB4.trans (hb5.mono hB4.size)
  go_wp2_with fail
  go_ret
  exact ⟨rfl, hB5⟩
end Go.Proofs.YtnhbpenejlocaaaDoor
