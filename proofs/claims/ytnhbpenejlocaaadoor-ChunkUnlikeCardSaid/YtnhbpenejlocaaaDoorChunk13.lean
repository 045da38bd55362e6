/-
  The laws of package chunk: ChunkUnlike.
-/
import Derived.Test.YtnhbpenejlocaaaDoorChunk11
set_option linter.unusedVariables false
namespace Go.Proofs.YtnhbpenejlocaaaDoor
open Go.RowKit

theorem word_inj {k c l m b kk cc ll mm bb : Int} (h : rightB k c l m b = true) (h2 : rightB kk cc ll mm bb = true) (b0 : 0 ≤ b) (b20 : 0 ≤ bb) (e : wordI k c l m b = wordI kk cc ll mm bb) : k = kk ∧ c = cc ∧ l = ll ∧ m = mm ∧ b = bb := by
  obtain ⟨k0, k1, c0, c1, l0, l1, m0, m1, b1⟩ := right_bd h b0
  obtain ⟨k20, k21, c20, c21, l20, l21, m20, m21, b21⟩ := right_bd h2 b20
  unfold wordI at e
  omega

set_option maxRecDepth 20000 in
set_option maxHeartbeats 2000000 in
theorem chunkUnlike_ny (k c l m b kk cc ll mm bb : Int) (w : World) (hw : Lw w) (b0 : 0 ≤ b) (b20 : 0 ≤ bb) (h : rightB k c l m b = false) (h2 : rightB kk cc ll mm bb = true) :
    Calls Tryd.prog 14 #[.agg #[.int .i64 k, .int .i64 c, .int .i64 l, .int .i64 m, .int .u64 b], .agg #[.int .i64 kk, .int .i64 cc, .int .i64 ll, .int .i64 mm, .int .u64 bb]] w fun e w' => e = .returned (.bool true) ∧ Below w.heap.size w w' := by
  have hw1 := Lib.hid ((hw.alloc (.cells #[.int .i64 k, .int .i64 c, .int .i64 l, .int .i64 m, .int .u64 b] 47)).alloc (.cells #[.int .i64 kk, .int .i64 cc, .int .i64 ll, .int .i64 mm, .int .u64 bb] 47))
  clear hw
  have hA : Below w.heap.size w ((w.alloc (.cells #[.int .i64 k, .int .i64 c, .int .i64 l, .int .i64 m, .int .u64 b] 47)).alloc (.cells #[.int .i64 kk, .int .i64 cc, .int .i64 ll, .int .i64 mm, .int .u64 bb] 47)) := ((Below.refl _ _).alloc (Nat.le_refl _) _).alloc (by simp) _
  have hk0 := (C5.new w k c l m b 47).keep ((Below.refl _ _).alloc (Nat.le_refl _) (.cells #[.int .i64 kk, .int .i64 cc, .int .i64 ll, .int .i64 mm, .int .u64 bb] 47))
  have hj0 := C5.new (w.alloc (.cells #[.int .i64 k, .int .i64 c, .int .i64 l, .int .i64 m, .int .u64 b] 47)) kk cc ll mm bb 47
  rw [show (w.alloc (.cells #[.int .i64 k, .int .i64 c, .int .i64 l, .int .i64 m, .int .u64 b] 47)).heap.size = w.heap.size + 1 by simp] at hj0
  go_enter Tryd.func14, Tryd.ntmps14
  go_wp2_with fail
  refine (awake10 _ hw1.out).mono ?_
  rintro e w1 ⟨rfl, hb1⟩
  have hw2 := Lib.hid (hw1.out.keep hb1)
  have hk1 := hk0.keep hb1
  have hj1 := Lib.hid (hj0.keep hb1)
  have hB1 : Below w.heap.size w w1 := hA.trans (hb1.mono (by simp; omega))
  clear hw1 hk0 hj0 hA hb1
  have hk1' := Lib.hid hk1
  obtain ⟨x0, x1, x2, x3, x4⟩ := hk1
  go_wp2_with fail
  refine (enc_no k c l m b _ hw2.out b0 h).mono ?_
  rintro e w2 ⟨rfl, hb2⟩
  have hw3 := Lib.hid (hw2.out.keep hb2)
  have hB2 : Below w.heap.size w w2 := hB1.trans (hb2.mono hB1.size)
  have hk2 := Lib.hid (hk1'.out.keep hb2)
  have hj2 := hj1.out.keep hb2
  clear hw2 hk1' hj1 hB1 hb2 x0 x1 x2 x3 x4
  have hj2' := Lib.hid hj2
  obtain ⟨x0, x1, x2, x3, x4⟩ := hj2
  go_wp2_with fail
  refine (enc_yes kk cc ll mm bb _ hw3.out b20 h2).mono ?_
  rintro e w3 ⟨rfl, hb3⟩
  have hB3 : Below w.heap.size w w3 := hB2.trans (hb3.mono hB2.size)
  have hk3 := hk2.out.keep hb3
  have hj3 := hj2'.out.keep hb3
  clear hw3 hk2 hj2' hB2 hb3 x0 x1 x2 x3 x4
  obtain ⟨x0, x1, x2, x3, x4⟩ := hk3
  obtain ⟨z0, z1, z2, z3, z4⟩ := hj3
  clear h h2
  go_wp2_with fail
  all_goals
    go_ret
    exact ⟨ret_b (by first | rfl | (simp; done) | (simp [*]; done)), hB3⟩

set_option maxRecDepth 20000 in
set_option maxHeartbeats 2000000 in
theorem chunkUnlike_nn (k c l m b kk cc ll mm bb : Int) (w : World) (hw : Lw w) (b0 : 0 ≤ b) (b20 : 0 ≤ bb) (h : rightB k c l m b = false) (h2 : rightB kk cc ll mm bb = false) :
    Calls Tryd.prog 14 #[.agg #[.int .i64 k, .int .i64 c, .int .i64 l, .int .i64 m, .int .u64 b], .agg #[.int .i64 kk, .int .i64 cc, .int .i64 ll, .int .i64 mm, .int .u64 bb]] w fun e w' => e = .returned (.bool true) ∧ Below w.heap.size w w' := by
  have hw1 := Lib.hid ((hw.alloc (.cells #[.int .i64 k, .int .i64 c, .int .i64 l, .int .i64 m, .int .u64 b] 47)).alloc (.cells #[.int .i64 kk, .int .i64 cc, .int .i64 ll, .int .i64 mm, .int .u64 bb] 47))
  clear hw
  have hA : Below w.heap.size w ((w.alloc (.cells #[.int .i64 k, .int .i64 c, .int .i64 l, .int .i64 m, .int .u64 b] 47)).alloc (.cells #[.int .i64 kk, .int .i64 cc, .int .i64 ll, .int .i64 mm, .int .u64 bb] 47)) := ((Below.refl _ _).alloc (Nat.le_refl _) _).alloc (by simp) _
  have hk0 := (C5.new w k c l m b 47).keep ((Below.refl _ _).alloc (Nat.le_refl _) (.cells #[.int .i64 kk, .int .i64 cc, .int .i64 ll, .int .i64 mm, .int .u64 bb] 47))
  have hj0 := C5.new (w.alloc (.cells #[.int .i64 k, .int .i64 c, .int .i64 l, .int .i64 m, .int .u64 b] 47)) kk cc ll mm bb 47
  rw [show (w.alloc (.cells #[.int .i64 k, .int .i64 c, .int .i64 l, .int .i64 m, .int .u64 b] 47)).heap.size = w.heap.size + 1 by simp] at hj0
  go_enter Tryd.func14, Tryd.ntmps14
  go_wp2_with fail
  refine (awake10 _ hw1.out).mono ?_
  rintro e w1 ⟨rfl, hb1⟩
  have hw2 := Lib.hid (hw1.out.keep hb1)
  have hk1 := hk0.keep hb1
  have hj1 := Lib.hid (hj0.keep hb1)
  have hB1 : Below w.heap.size w w1 := hA.trans (hb1.mono (by simp; omega))
  clear hw1 hk0 hj0 hA hb1
  have hk1' := Lib.hid hk1
  obtain ⟨x0, x1, x2, x3, x4⟩ := hk1
  go_wp2_with fail
  refine (enc_no k c l m b _ hw2.out b0 h).mono ?_
  rintro e w2 ⟨rfl, hb2⟩
  have hw3 := Lib.hid (hw2.out.keep hb2)
  have hB2 : Below w.heap.size w w2 := hB1.trans (hb2.mono hB1.size)
  have hk2 := Lib.hid (hk1'.out.keep hb2)
  have hj2 := hj1.out.keep hb2
  clear hw2 hk1' hj1 hB1 hb2 x0 x1 x2 x3 x4
  have hj2' := Lib.hid hj2
  obtain ⟨x0, x1, x2, x3, x4⟩ := hj2
  go_wp2_with fail
  refine (enc_no kk cc ll mm bb _ hw3.out b20 h2).mono ?_
  rintro e w3 ⟨rfl, hb3⟩
  have hB3 : Below w.heap.size w w3 := hB2.trans (hb3.mono hB2.size)
  have hk3 := hk2.out.keep hb3
  have hj3 := hj2'.out.keep hb3
  clear hw3 hk2 hj2' hB2 hb3 x0 x1 x2 x3 x4
  obtain ⟨x0, x1, x2, x3, x4⟩ := hk3
  obtain ⟨z0, z1, z2, z3, z4⟩ := hj3
  clear h h2
  go_wp2_with fail
  all_goals
    go_ret
    exact ⟨ret_b (by first | rfl | (simp; done) | (simp [*]; done)), hB3⟩

set_option maxRecDepth 20000 in
set_option maxHeartbeats 2000000 in
theorem chunkUnlike_yn (k c l m b kk cc ll mm bb : Int) (w : World) (hw : Lw w) (b0 : 0 ≤ b) (b20 : 0 ≤ bb) (h : rightB k c l m b = true) (h2 : rightB kk cc ll mm bb = false) :
    Calls Tryd.prog 14 #[.agg #[.int .i64 k, .int .i64 c, .int .i64 l, .int .i64 m, .int .u64 b], .agg #[.int .i64 kk, .int .i64 cc, .int .i64 ll, .int .i64 mm, .int .u64 bb]] w fun e w' => e = .returned (.bool true) ∧ Below w.heap.size w w' := by
  have hw1 := Lib.hid ((hw.alloc (.cells #[.int .i64 k, .int .i64 c, .int .i64 l, .int .i64 m, .int .u64 b] 47)).alloc (.cells #[.int .i64 kk, .int .i64 cc, .int .i64 ll, .int .i64 mm, .int .u64 bb] 47))
  clear hw
  have hA : Below w.heap.size w ((w.alloc (.cells #[.int .i64 k, .int .i64 c, .int .i64 l, .int .i64 m, .int .u64 b] 47)).alloc (.cells #[.int .i64 kk, .int .i64 cc, .int .i64 ll, .int .i64 mm, .int .u64 bb] 47)) := ((Below.refl _ _).alloc (Nat.le_refl _) _).alloc (by simp) _
  have hk0 := (C5.new w k c l m b 47).keep ((Below.refl _ _).alloc (Nat.le_refl _) (.cells #[.int .i64 kk, .int .i64 cc, .int .i64 ll, .int .i64 mm, .int .u64 bb] 47))
  have hj0 := C5.new (w.alloc (.cells #[.int .i64 k, .int .i64 c, .int .i64 l, .int .i64 m, .int .u64 b] 47)) kk cc ll mm bb 47
  rw [show (w.alloc (.cells #[.int .i64 k, .int .i64 c, .int .i64 l, .int .i64 m, .int .u64 b] 47)).heap.size = w.heap.size + 1 by simp] at hj0
  go_enter Tryd.func14, Tryd.ntmps14
  go_wp2_with fail
  refine (awake10 _ hw1.out).mono ?_
  rintro e w1 ⟨rfl, hb1⟩
  have hw2 := Lib.hid (hw1.out.keep hb1)
  have hk1 := hk0.keep hb1
  have hj1 := Lib.hid (hj0.keep hb1)
  have hB1 : Below w.heap.size w w1 := hA.trans (hb1.mono (by simp; omega))
  clear hw1 hk0 hj0 hA hb1
  have hk1' := Lib.hid hk1
  obtain ⟨x0, x1, x2, x3, x4⟩ := hk1
  go_wp2_with fail
  refine (enc_yes k c l m b _ hw2.out b0 h).mono ?_
  rintro e w2 ⟨rfl, hb2⟩
  have hw3 := Lib.hid (hw2.out.keep hb2)
  have hB2 : Below w.heap.size w w2 := hB1.trans (hb2.mono hB1.size)
  have hk2 := Lib.hid (hk1'.out.keep hb2)
  have hj2 := hj1.out.keep hb2
  clear hw2 hk1' hj1 hB1 hb2 x0 x1 x2 x3 x4
  have hj2' := Lib.hid hj2
  obtain ⟨x0, x1, x2, x3, x4⟩ := hj2
  go_wp2_with fail
  refine (enc_no kk cc ll mm bb _ hw3.out b20 h2).mono ?_
  rintro e w3 ⟨rfl, hb3⟩
  have hB3 : Below w.heap.size w w3 := hB2.trans (hb3.mono hB2.size)
  have hk3 := hk2.out.keep hb3
  have hj3 := hj2'.out.keep hb3
  clear hw3 hk2 hj2' hB2 hb3 x0 x1 x2 x3 x4
  obtain ⟨x0, x1, x2, x3, x4⟩ := hk3
  obtain ⟨z0, z1, z2, z3, z4⟩ := hj3
  clear h h2
  go_wp2_with fail
  all_goals
    go_ret
    exact ⟨ret_b (by first | rfl | (simp; done) | (simp [*]; done)), hB3⟩

set_option maxRecDepth 20000 in
set_option maxHeartbeats 2000000 in
theorem chunkUnlike_ne (k c l m b kk cc ll mm bb : Int) (w : World) (hw : Lw w) (b0 : 0 ≤ b) (b20 : 0 ≤ bb) (h : rightB k c l m b = true) (h2 : rightB kk cc ll mm bb = true) (hne : ¬ (k = kk ∧ c = cc ∧ l = ll ∧ m = mm ∧ b = bb)) :
    Calls Tryd.prog 14 #[.agg #[.int .i64 k, .int .i64 c, .int .i64 l, .int .i64 m, .int .u64 b], .agg #[.int .i64 kk, .int .i64 cc, .int .i64 ll, .int .i64 mm, .int .u64 bb]] w fun e w' => e = .returned (.bool true) ∧ Below w.heap.size w w' := by
  have hw1 := Lib.hid ((hw.alloc (.cells #[.int .i64 k, .int .i64 c, .int .i64 l, .int .i64 m, .int .u64 b] 47)).alloc (.cells #[.int .i64 kk, .int .i64 cc, .int .i64 ll, .int .i64 mm, .int .u64 bb] 47))
  clear hw
  have hA : Below w.heap.size w ((w.alloc (.cells #[.int .i64 k, .int .i64 c, .int .i64 l, .int .i64 m, .int .u64 b] 47)).alloc (.cells #[.int .i64 kk, .int .i64 cc, .int .i64 ll, .int .i64 mm, .int .u64 bb] 47)) := ((Below.refl _ _).alloc (Nat.le_refl _) _).alloc (by simp) _
  have hk0 := (C5.new w k c l m b 47).keep ((Below.refl _ _).alloc (Nat.le_refl _) (.cells #[.int .i64 kk, .int .i64 cc, .int .i64 ll, .int .i64 mm, .int .u64 bb] 47))
  have hj0 := C5.new (w.alloc (.cells #[.int .i64 k, .int .i64 c, .int .i64 l, .int .i64 m, .int .u64 b] 47)) kk cc ll mm bb 47
  rw [show (w.alloc (.cells #[.int .i64 k, .int .i64 c, .int .i64 l, .int .i64 m, .int .u64 b] 47)).heap.size = w.heap.size + 1 by simp] at hj0
  go_enter Tryd.func14, Tryd.ntmps14
  go_wp2_with fail
  refine (awake10 _ hw1.out).mono ?_
  rintro e w1 ⟨rfl, hb1⟩
  have hw2 := Lib.hid (hw1.out.keep hb1)
  have hk1 := hk0.keep hb1
  have hj1 := Lib.hid (hj0.keep hb1)
  have hB1 : Below w.heap.size w w1 := hA.trans (hb1.mono (by simp; omega))
  clear hw1 hk0 hj0 hA hb1
  have hk1' := Lib.hid hk1
  obtain ⟨x0, x1, x2, x3, x4⟩ := hk1
  go_wp2_with fail
  refine (enc_yes k c l m b _ hw2.out b0 h).mono ?_
  rintro e w2 ⟨rfl, hb2⟩
  have hw3 := Lib.hid (hw2.out.keep hb2)
  have hB2 : Below w.heap.size w w2 := hB1.trans (hb2.mono hB1.size)
  have hk2 := Lib.hid (hk1'.out.keep hb2)
  have hj2 := hj1.out.keep hb2
  clear hw2 hk1' hj1 hB1 hb2 x0 x1 x2 x3 x4
  have hj2' := Lib.hid hj2
  obtain ⟨x0, x1, x2, x3, x4⟩ := hj2
  go_wp2_with fail
  refine (enc_yes kk cc ll mm bb _ hw3.out b20 h2).mono ?_
  rintro e w3 ⟨rfl, hb3⟩
  have hB3 : Below w.heap.size w w3 := hB2.trans (hb3.mono hB2.size)
  have hk3 := hk2.out.keep hb3
  have hj3 := hj2'.out.keep hb3
  clear hw3 hk2 hj2' hB2 hb3 x0 x1 x2 x3 x4
  obtain ⟨x0, x1, x2, x3, x4⟩ := hk3
  obtain ⟨z0, z1, z2, z3, z4⟩ := hj3
  have hq : (wordI k c l m b == wordI kk cc ll mm bb) = false := by
    rw [beq_eq_false_iff_ne]
    intro e
    exact hne (word_inj h h2 b0 b20 e)
  clear h h2
  go_wp2_with fail
  all_goals
    go_ret
    exact ⟨ret_b (by first | rfl | (simp; done) | (simp [*]; done)), hB3⟩

set_option maxRecDepth 20000 in
set_option maxHeartbeats 2000000 in
theorem chunkUnlike_eq (k c l m b kk cc ll mm bb : Int) (w : World) (hw : Lw w) (b0 : 0 ≤ b) (b20 : 0 ≤ bb) (h : rightB k c l m b = true) (h2 : rightB kk cc ll mm bb = true) (e0 : k = kk) (e1 : c = cc) (e2 : l = ll) (e3 : m = mm) (e4 : b = bb) :
    Calls Tryd.prog 14 #[.agg #[.int .i64 k, .int .i64 c, .int .i64 l, .int .i64 m, .int .u64 b], .agg #[.int .i64 kk, .int .i64 cc, .int .i64 ll, .int .i64 mm, .int .u64 bb]] w fun e w' => e = .returned (.bool true) ∧ Below w.heap.size w w' := by
  subst e0 e1 e2 e3 e4
  have hw1 := Lib.hid ((hw.alloc (.cells #[.int .i64 k, .int .i64 c, .int .i64 l, .int .i64 m, .int .u64 b] 47)).alloc (.cells #[.int .i64 k, .int .i64 c, .int .i64 l, .int .i64 m, .int .u64 b] 47))
  clear hw
  have hA : Below w.heap.size w ((w.alloc (.cells #[.int .i64 k, .int .i64 c, .int .i64 l, .int .i64 m, .int .u64 b] 47)).alloc (.cells #[.int .i64 k, .int .i64 c, .int .i64 l, .int .i64 m, .int .u64 b] 47)) := ((Below.refl _ _).alloc (Nat.le_refl _) _).alloc (by simp) _
  have hk0 := (C5.new w k c l m b 47).keep ((Below.refl _ _).alloc (Nat.le_refl _) (.cells #[.int .i64 k, .int .i64 c, .int .i64 l, .int .i64 m, .int .u64 b] 47))
  have hj0 := C5.new (w.alloc (.cells #[.int .i64 k, .int .i64 c, .int .i64 l, .int .i64 m, .int .u64 b] 47)) k c l m b 47
  rw [show (w.alloc (.cells #[.int .i64 k, .int .i64 c, .int .i64 l, .int .i64 m, .int .u64 b] 47)).heap.size = w.heap.size + 1 by simp] at hj0
  go_enter Tryd.func14, Tryd.ntmps14
  go_wp2_with fail
  refine (awake10 _ hw1.out).mono ?_
  rintro e w1 ⟨rfl, hb1⟩
  have hw2 := Lib.hid (hw1.out.keep hb1)
  have hk1 := hk0.keep hb1
  have hj1 := Lib.hid (hj0.keep hb1)
  have hB1 : Below w.heap.size w w1 := hA.trans (hb1.mono (by simp; omega))
  clear hw1 hk0 hj0 hA hb1
  have hk1' := Lib.hid hk1
  obtain ⟨x0, x1, x2, x3, x4⟩ := hk1
  go_wp2_with fail
  refine (enc_yes k c l m b _ hw2.out b0 h).mono ?_
  rintro e w2 ⟨rfl, hb2⟩
  have hw3 := Lib.hid (hw2.out.keep hb2)
  have hB2 : Below w.heap.size w w2 := hB1.trans (hb2.mono hB1.size)
  have hk2 := Lib.hid (hk1'.out.keep hb2)
  have hj2 := hj1.out.keep hb2
  clear hw2 hk1' hj1 hB1 hb2 x0 x1 x2 x3 x4
  have hj2' := Lib.hid hj2
  obtain ⟨x0, x1, x2, x3, x4⟩ := hj2
  go_wp2_with fail
  refine (enc_yes k c l m b _ hw3.out b20 h2).mono ?_
  rintro e w3 ⟨rfl, hb3⟩
  have hB3 : Below w.heap.size w w3 := hB2.trans (hb3.mono hB2.size)
  have hk3 := hk2.out.keep hb3
  have hj3 := hj2'.out.keep hb3
  clear hw3 hk2 hj2' hB2 hb3 x0 x1 x2 x3 x4
  obtain ⟨x0, x1, x2, x3, x4⟩ := hk3
  obtain ⟨z0, z1, z2, z3, z4⟩ := hj3
  have hq : (wordI k c l m b == wordI k c l m b) = true := by simp
  clear h h2
  go_wp2_with fail
  all_goals
    go_ret
    exact ⟨ret_b (by first | rfl | (simp; done) | (simp [*]; done)), hB3⟩


theorem chunkUnlike (k c l m b kk cc ll mm bb : Int) (w : World) (hw : Lw w) (b0 : 0 ≤ b) (b20 : 0 ≤ bb) :
    Calls Tryd.prog 14 #[.agg #[.int .i64 k, .int .i64 c, .int .i64 l, .int .i64 m, .int .u64 b], .agg #[.int .i64 kk, .int .i64 cc, .int .i64 ll, .int .i64 mm, .int .u64 bb]] w fun e w' => e = .returned (.bool true) ∧ Below w.heap.size w w' := by
  cases h : rightB k c l m b
  · cases h2 : rightB kk cc ll mm bb
    · exact chunkUnlike_nn k c l m b kk cc ll mm bb w hw b0 b20 h h2
    · exact chunkUnlike_ny k c l m b kk cc ll mm bb w hw b0 b20 h h2
  · cases h2 : rightB kk cc ll mm bb
    · exact chunkUnlike_yn k c l m b kk cc ll mm bb w hw b0 b20 h h2
    · by_cases he : k = kk ∧ c = cc ∧ l = ll ∧ m = mm ∧ b = bb
      · obtain ⟨e0, e1, e2, e3, e4⟩ := he
        exact chunkUnlike_eq k c l m b kk cc ll mm bb w hw b0 b20 h h2 e0 e1 e2 e3 e4
      · exact chunkUnlike_ne k c l m b kk cc ll mm bb w hw b0 b20 h h2 he

end Go.Proofs.YtnhbpenejlocaaaDoor