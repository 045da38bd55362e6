/-
  The laws of package chunk: ChunkBack.
-/
import Derived.Test.YtnhbpenejlocaaaDoorChunk11
set_option linter.unusedVariables false
namespace Go.Proofs.YtnhbpenejlocaaaDoor
open Go.RowKit

theorem word_back (x : Int) (h0 : 0 ≤ x) (h1 : x < 18446744073709551616) (h : decB x = true) : wordI (getI x 0 3) (getI x 3 2) (getI x 5 6) (getI x 11 13) (getI x 24 8) = x := by
  rw [word_get x h0 h1]
  have := (dec_t h).2
  omega

set_option maxRecDepth 20000 in
set_option maxHeartbeats 4000000 in
theorem chunkBack_yy (k c l m b x : Int) (w : World) (hw : Lw w) (b0 : 0 ≤ b) (h0 : 0 ≤ x) (h1 : x < 18446744073709551616) (h : rightB k c l m b = true) (hd : decB x = true) :
    Calls Tryd.prog 11 #[.agg #[.int .i64 k, .int .i64 c, .int .i64 l, .int .i64 m, .int .u64 b], .int .u64 x] w fun e w' => e = .returned (.bool true) ∧ Below w.heap.size w w' := by
  have hw1 := Lib.hid (hw.alloc (.cells #[.int .i64 k, .int .i64 c, .int .i64 l, .int .i64 m, .int .u64 b] 47))
  clear hw
  have hA := (Below.refl w.heap.size w).alloc (Nat.le_refl _) (.cells #[.int .i64 k, .int .i64 c, .int .i64 l, .int .i64 m, .int .u64 b] 47)
  have hk0 := C5.new w k c l m b 47
  have hR := Lib.hid (fun w (hw : Lw w) => show Calls Tryd.prog 31 #[.agg #[.int .i64 k, .int .i64 c, .int .i64 l, .int .i64 m, .int .u64 b]] w fun e w' => e = .returned (.bool true) ∧ Below w.heap.size w w' from by
    have := right_any k c l m b w hw.2.2.1 hw.2.2.2.1 b0
    rwa [h] at this)
  have hE := Lib.hid (fun w (hw : Lw w) => enc_yes k c l m b w hw b0 h)
  have hDW := Lib.hid (fun w (hw : Lw w) => dec_word k c l m b w hw b0 h)
  have hDX := Lib.hid (fun w (hw : Lw w) => dec_yes x w hw h0 h1 hd)
  have hEX := Lib.hid (fun w (hw : Lw w) => show Calls Tryd.prog 29 #[.agg #[.int .i64 (getI x 0 3), .int .i64 (getI x 3 2), .int .i64 (getI x 5 6), .int .i64 (getI x 11 13), .int .u64 (getI x 24 8)]] w fun e w' => e = .returned (.tuple #[.int .u64 x, .int .i64 0]) ∧ Below w.heap.size w w' from by
    have := enc_yes (getI x 0 3) (getI x 3 2) (getI x 5 6) (getI x 11 13) (getI x 24 8) w hw (get_small x 24 8).1 (dec_t hd).1
    rwa [word_back x h0 h1 hd] at this)
  have hxx : (x == x) = true := by simp
  clear h hd
  go_enter Tryd.func11, Tryd.ntmps11
  go_wp2_with fail
  refine (awake10 _ hw1.out).mono ?_
  rintro e w1 ⟨rfl, hb1⟩
  have hw2 := Lib.hid (hw1.out.keep hb1)
  have hk1 := hk0.keep hb1
  have hB1 : Below w.heap.size w w1 := hA.trans (hb1.mono (by simp))
  clear hw1 hk0 hA hb1
  have hk1' := Lib.hid hk1
  obtain ⟨x0, x1, x2, x3, x4⟩ := hk1
  go_wp2_with fail
  refine (hE.out _ hw2.out).mono ?_
  rintro e w2 ⟨rfl, hb2⟩
  have hw3 := Lib.hid (hw2.out.keep hb2)
  have hB2 : Below w.heap.size w w2 := hB1.trans (hb2.mono hB1.size)
  have hk2 := hk1'.out.keep hb2
  clear hw2 hk1' hB1 hb2 x0 x1 x2 x3 x4
  have hk2' := Lib.hid hk2
  obtain ⟨x0, x1, x2, x3, x4⟩ := hk2
  go_wp2_with fail
  refine (hDW.out _ hw3.out).mono ?_
  rintro e w3 ⟨rfl, hb3⟩
  have hw4 := Lib.hid ((hw3.out.keep hb3).alloc (.cells #[.int .i64 k, .int .i64 c, .int .i64 l, .int .i64 m, .int .u64 b] 47))
  have hB3' : Below w.heap.size w w3 := hB2.trans (hb3.mono hB2.size)
  have hB3 : Below w.heap.size w (w3.alloc (.cells #[.int .i64 k, .int .i64 c, .int .i64 l, .int .i64 m, .int .u64 b] 47)) := hB3'.alloc hB3'.size _
  have hk3 := Lib.hid ((hk2'.out.keep hb3).keep ((Below.refl _ _).alloc (Nat.le_refl _) (.cells #[.int .i64 k, .int .i64 c, .int .i64 l, .int .i64 m, .int .u64 b] 47)))
  obtain ⟨x0, x1, x2, x3, x4⟩ := hk2'.out.keep hb3
  have hlt : w.heap.size < w3.heap.size := World.block_lt_of_cell? _ _ x0
  clear hw3 hk2' hB2 hb3 hB3'
  have p0 : (k == k) = true := by simp
  have p1 : (c == c) = true := by simp
  have p2 : (l == l) = true := by simp
  have p3 : (m == m) = true := by simp
  have p4 : (b == b) = true := by simp
  go_wp2_with fail
  refine (hDX.out _ hw4.out).mono ?_
  rintro e w4 ⟨rfl, hb4⟩
  have hw5 := Lib.hid ((hw4.out.keep hb4).alloc (.cells #[.int .i64 (getI x 0 3), .int .i64 (getI x 3 2), .int .i64 (getI x 5 6), .int .i64 (getI x 11 13), .int .u64 (getI x 24 8)] 47))
  have hB4' : Below w.heap.size w w4 := hB3.trans (hb4.mono hB3.size)
  have hB4 : Below w.heap.size w (w4.alloc (.cells #[.int .i64 (getI x 0 3), .int .i64 (getI x 3 2), .int .i64 (getI x 5 6), .int .i64 (getI x 11 13), .int .u64 (getI x 24 8)] 47)) := hB4'.alloc hB4'.size _
  have hk4 := Lib.hid ((hk3.out.keep hb4).keep ((Below.refl _ _).alloc (Nat.le_refl _) (.cells #[.int .i64 (getI x 0 3), .int .i64 (getI x 3 2), .int .i64 (getI x 5 6), .int .i64 (getI x 11 13), .int .u64 (getI x 24 8)] 47)))
  have hd0 := C5.new w4 (getI x 0 3) (getI x 3 2) (getI x 5 6) (getI x 11 13) (getI x 24 8) 47
  clear hw4 hk3 hB3 hb4 hB4'
  go_wp2_with fail
  refine (hEX.out _ hw5.out).mono ?_
  rintro e w5 ⟨rfl, hb5⟩
  have hw6 := Lib.hid (hw5.out.keep hb5)
  have hB5 : Below w.heap.size w w5 := hB4.trans (hb5.mono hB4.size)
  have hk5 := hk4.out.keep hb5
  have hd5 := hd0.keep hb5
  have hlt5 : w4.heap.size < w5.heap.size := hd5.lt
  obtain ⟨x0, x1, x2, x3, x4⟩ := hk5
  obtain ⟨z0, z1, z2, z3, z4⟩ := hd5
  clear hw5 hk4 hd0 hB4 hb5
  go_wp2_with fail
  refine (hR.out _ hw6.out).mono ?_
  rintro e w6 ⟨rfl, hb6⟩
  have hB6 : Below w.heap.size w w6 := hB5.trans (hb6.mono hB5.size)
  go_wp2_with fail
  go_ret
  exact ⟨rfl, hB6⟩

set_option maxRecDepth 20000 in
set_option maxHeartbeats 4000000 in
theorem chunkBack_yn (k c l m b x : Int) (w : World) (hw : Lw w) (b0 : 0 ≤ b) (h0 : 0 ≤ x) (h1 : x < 18446744073709551616) (h : rightB k c l m b = true) (hd : decB x = false) :
    Calls Tryd.prog 11 #[.agg #[.int .i64 k, .int .i64 c, .int .i64 l, .int .i64 m, .int .u64 b], .int .u64 x] w fun e w' => e = .returned (.bool true) ∧ Below w.heap.size w w' := by
  have hw1 := Lib.hid (hw.alloc (.cells #[.int .i64 k, .int .i64 c, .int .i64 l, .int .i64 m, .int .u64 b] 47))
  clear hw
  have hA := (Below.refl w.heap.size w).alloc (Nat.le_refl _) (.cells #[.int .i64 k, .int .i64 c, .int .i64 l, .int .i64 m, .int .u64 b] 47)
  have hk0 := C5.new w k c l m b 47
  have hR := Lib.hid (fun w (hw : Lw w) => show Calls Tryd.prog 31 #[.agg #[.int .i64 k, .int .i64 c, .int .i64 l, .int .i64 m, .int .u64 b]] w fun e w' => e = .returned (.bool true) ∧ Below w.heap.size w w' from by
    have := right_any k c l m b w hw.2.2.1 hw.2.2.2.1 b0
    rwa [h] at this)
  have hE := Lib.hid (fun w (hw : Lw w) => enc_yes k c l m b w hw b0 h)
  have hDW := Lib.hid (fun w (hw : Lw w) => dec_word k c l m b w hw b0 h)
  have hDX := Lib.hid (fun w (hw : Lw w) => dec_no x w hw h0 h1 hd)
  have hEX := Lib.hid (fun w (hw : Lw w) => show Calls Tryd.prog 29 #[.agg #[.int .i64 0, .int .i64 0, .int .i64 0, .int .i64 0, .int .u64 0]] w fun e w' => e = .returned (.tuple #[.int .u64 0, .int .i64 0]) ∧ Below w.heap.size w w' from by
    have := enc_yes 0 0 0 0 0 w hw (by decide) (by decide +kernel)
    rwa [show wordI 0 0 0 0 0 = 0 by decide +kernel] at this)
  clear h hd
  go_enter Tryd.func11, Tryd.ntmps11
  go_wp2_with fail
  refine (awake10 _ hw1.out).mono ?_
  rintro e w1 ⟨rfl, hb1⟩
  have hw2 := Lib.hid (hw1.out.keep hb1)
  have hk1 := hk0.keep hb1
  have hB1 : Below w.heap.size w w1 := hA.trans (hb1.mono (by simp))
  clear hw1 hk0 hA hb1
  have hk1' := Lib.hid hk1
  obtain ⟨x0, x1, x2, x3, x4⟩ := hk1
  go_wp2_with fail
  refine (hE.out _ hw2.out).mono ?_
  rintro e w2 ⟨rfl, hb2⟩
  have hw3 := Lib.hid (hw2.out.keep hb2)
  have hB2 : Below w.heap.size w w2 := hB1.trans (hb2.mono hB1.size)
  have hk2 := hk1'.out.keep hb2
  clear hw2 hk1' hB1 hb2 x0 x1 x2 x3 x4
  have hk2' := Lib.hid hk2
  obtain ⟨x0, x1, x2, x3, x4⟩ := hk2
  go_wp2_with fail
  refine (hDW.out _ hw3.out).mono ?_
  rintro e w3 ⟨rfl, hb3⟩
  have hw4 := Lib.hid ((hw3.out.keep hb3).alloc (.cells #[.int .i64 k, .int .i64 c, .int .i64 l, .int .i64 m, .int .u64 b] 47))
  have hB3' : Below w.heap.size w w3 := hB2.trans (hb3.mono hB2.size)
  have hB3 : Below w.heap.size w (w3.alloc (.cells #[.int .i64 k, .int .i64 c, .int .i64 l, .int .i64 m, .int .u64 b] 47)) := hB3'.alloc hB3'.size _
  have hk3 := Lib.hid ((hk2'.out.keep hb3).keep ((Below.refl _ _).alloc (Nat.le_refl _) (.cells #[.int .i64 k, .int .i64 c, .int .i64 l, .int .i64 m, .int .u64 b] 47)))
  obtain ⟨x0, x1, x2, x3, x4⟩ := hk2'.out.keep hb3
  have hlt : w.heap.size < w3.heap.size := World.block_lt_of_cell? _ _ x0
  clear hw3 hk2' hB2 hb3 hB3'
  have p0 : (k == k) = true := by simp
  have p1 : (c == c) = true := by simp
  have p2 : (l == l) = true := by simp
  have p3 : (m == m) = true := by simp
  have p4 : (b == b) = true := by simp
  go_wp2_with fail
  refine (hDX.out _ hw4.out).mono ?_
  rintro e w4 ⟨rfl, hb4⟩
  have hw5 := Lib.hid ((hw4.out.keep hb4).alloc (.cells #[.int .i64 0, .int .i64 0, .int .i64 0, .int .i64 0, .int .u64 0] 47))
  have hB4' : Below w.heap.size w w4 := hB3.trans (hb4.mono hB3.size)
  have hB4 : Below w.heap.size w (w4.alloc (.cells #[.int .i64 0, .int .i64 0, .int .i64 0, .int .i64 0, .int .u64 0] 47)) := hB4'.alloc hB4'.size _
  have hk4 := Lib.hid ((hk3.out.keep hb4).keep ((Below.refl _ _).alloc (Nat.le_refl _) (.cells #[.int .i64 0, .int .i64 0, .int .i64 0, .int .i64 0, .int .u64 0] 47)))
  have hd0 := C5.new w4 0 0 0 0 0 47
  clear hw4 hk3 hB3 hb4 hB4'
  go_wp2_with fail
  refine (hEX.out _ hw5.out).mono ?_
  rintro e w5 ⟨rfl, hb5⟩
  have hw6 := Lib.hid (hw5.out.keep hb5)
  have hB5 : Below w.heap.size w w5 := hB4.trans (hb5.mono hB4.size)
  have hk5 := hk4.out.keep hb5
  have hd5 := hd0.keep hb5
  have hlt5 : w4.heap.size < w5.heap.size := hd5.lt
  obtain ⟨x0, x1, x2, x3, x4⟩ := hk5
  obtain ⟨z0, z1, z2, z3, z4⟩ := hd5
  clear hw5 hk4 hd0 hB4 hb5
  go_wp2_with fail
  refine (hR.out _ hw6.out).mono ?_
  rintro e w6 ⟨rfl, hb6⟩
  have hB6 : Below w.heap.size w w6 := hB5.trans (hb6.mono hB5.size)
  go_wp2_with fail
  go_ret
  exact ⟨rfl, hB6⟩

set_option maxRecDepth 20000 in
set_option maxHeartbeats 4000000 in
theorem chunkBack_ny (k c l m b x : Int) (w : World) (hw : Lw w) (b0 : 0 ≤ b) (h0 : 0 ≤ x) (h1 : x < 18446744073709551616) (h : rightB k c l m b = false) (hd : decB x = true) :
    Calls Tryd.prog 11 #[.agg #[.int .i64 k, .int .i64 c, .int .i64 l, .int .i64 m, .int .u64 b], .int .u64 x] w fun e w' => e = .returned (.bool true) ∧ Below w.heap.size w w' := by
  have hw1 := Lib.hid (hw.alloc (.cells #[.int .i64 k, .int .i64 c, .int .i64 l, .int .i64 m, .int .u64 b] 47))
  clear hw
  have hA := (Below.refl w.heap.size w).alloc (Nat.le_refl _) (.cells #[.int .i64 k, .int .i64 c, .int .i64 l, .int .i64 m, .int .u64 b] 47)
  have hk0 := C5.new w k c l m b 47
  have hR := Lib.hid (fun w (hw : Lw w) => show Calls Tryd.prog 31 #[.agg #[.int .i64 k, .int .i64 c, .int .i64 l, .int .i64 m, .int .u64 b]] w fun e w' => e = .returned (.bool false) ∧ Below w.heap.size w w' from by
    have := right_any k c l m b w hw.2.2.1 hw.2.2.2.1 b0
    rwa [h] at this)
  have hE := Lib.hid (fun w (hw : Lw w) => enc_no k c l m b w hw b0 h)
  have hDX := Lib.hid (fun w (hw : Lw w) => dec_yes x w hw h0 h1 hd)
  have hEX := Lib.hid (fun w (hw : Lw w) => show Calls Tryd.prog 29 #[.agg #[.int .i64 (getI x 0 3), .int .i64 (getI x 3 2), .int .i64 (getI x 5 6), .int .i64 (getI x 11 13), .int .u64 (getI x 24 8)]] w fun e w' => e = .returned (.tuple #[.int .u64 x, .int .i64 0]) ∧ Below w.heap.size w w' from by
    have := enc_yes (getI x 0 3) (getI x 3 2) (getI x 5 6) (getI x 11 13) (getI x 24 8) w hw (get_small x 24 8).1 (dec_t hd).1
    rwa [word_back x h0 h1 hd] at this)
  have hxx : (x == x) = true := by simp
  clear h hd
  go_enter Tryd.func11, Tryd.ntmps11
  go_wp2_with fail
  refine (awake10 _ hw1.out).mono ?_
  rintro e w1 ⟨rfl, hb1⟩
  have hw2 := Lib.hid (hw1.out.keep hb1)
  have hk1 := hk0.keep hb1
  have hB1 : Below w.heap.size w w1 := hA.trans (hb1.mono (by simp))
  clear hw1 hk0 hA hb1
  have hk1' := Lib.hid hk1
  obtain ⟨x0, x1, x2, x3, x4⟩ := hk1
  go_wp2_with fail
  refine (hE.out _ hw2.out).mono ?_
  rintro e w2 ⟨rfl, hb2⟩
  have hw3 := Lib.hid (hw2.out.keep hb2)
  have hB2 : Below w.heap.size w w2 := hB1.trans (hb2.mono hB1.size)
  have hk2 := hk1'.out.keep hb2
  clear hw2 hk1' hB1 hb2 x0 x1 x2 x3 x4
  have hk2' := Lib.hid hk2
  obtain ⟨x0, x1, x2, x3, x4⟩ := hk2
  go_wp2_with fail
  have hw4 := hw3
  have hB3 := hB2
  have hk3 := hk2'
  refine (hDX.out _ hw4.out).mono ?_
  rintro e w4 ⟨rfl, hb4⟩
  have hw5 := Lib.hid ((hw4.out.keep hb4).alloc (.cells #[.int .i64 (getI x 0 3), .int .i64 (getI x 3 2), .int .i64 (getI x 5 6), .int .i64 (getI x 11 13), .int .u64 (getI x 24 8)] 47))
  have hB4' : Below w.heap.size w w4 := hB3.trans (hb4.mono hB3.size)
  have hB4 : Below w.heap.size w (w4.alloc (.cells #[.int .i64 (getI x 0 3), .int .i64 (getI x 3 2), .int .i64 (getI x 5 6), .int .i64 (getI x 11 13), .int .u64 (getI x 24 8)] 47)) := hB4'.alloc hB4'.size _
  have hk4 := Lib.hid ((hk3.out.keep hb4).keep ((Below.refl _ _).alloc (Nat.le_refl _) (.cells #[.int .i64 (getI x 0 3), .int .i64 (getI x 3 2), .int .i64 (getI x 5 6), .int .i64 (getI x 11 13), .int .u64 (getI x 24 8)] 47)))
  have hd0 := C5.new w4 (getI x 0 3) (getI x 3 2) (getI x 5 6) (getI x 11 13) (getI x 24 8) 47
  clear hw4 hk3 hB3 hb4 hB4'
  go_wp2_with fail
  refine (hEX.out _ hw5.out).mono ?_
  rintro e w5 ⟨rfl, hb5⟩
  have hw6 := Lib.hid (hw5.out.keep hb5)
  have hB5 : Below w.heap.size w w5 := hB4.trans (hb5.mono hB4.size)
  have hk5 := hk4.out.keep hb5
  have hd5 := hd0.keep hb5
  have hlt5 : w4.heap.size < w5.heap.size := hd5.lt
  obtain ⟨x0, x1, x2, x3, x4⟩ := hk5
  obtain ⟨z0, z1, z2, z3, z4⟩ := hd5
  clear hw5 hk4 hd0 hB4 hb5
  go_wp2_with fail
  refine (hR.out _ hw6.out).mono ?_
  rintro e w6 ⟨rfl, hb6⟩
  have hB6 : Below w.heap.size w w6 := hB5.trans (hb6.mono hB5.size)
  go_wp2_with fail
  go_ret
  exact ⟨rfl, hB6⟩

set_option maxRecDepth 20000 in
set_option maxHeartbeats 4000000 in
theorem chunkBack_nn (k c l m b x : Int) (w : World) (hw : Lw w) (b0 : 0 ≤ b) (h0 : 0 ≤ x) (h1 : x < 18446744073709551616) (h : rightB k c l m b = false) (hd : decB x = false) :
    Calls Tryd.prog 11 #[.agg #[.int .i64 k, .int .i64 c, .int .i64 l, .int .i64 m, .int .u64 b], .int .u64 x] w fun e w' => e = .returned (.bool true) ∧ Below w.heap.size w w' := by
  have hw1 := Lib.hid (hw.alloc (.cells #[.int .i64 k, .int .i64 c, .int .i64 l, .int .i64 m, .int .u64 b] 47))
  clear hw
  have hA := (Below.refl w.heap.size w).alloc (Nat.le_refl _) (.cells #[.int .i64 k, .int .i64 c, .int .i64 l, .int .i64 m, .int .u64 b] 47)
  have hk0 := C5.new w k c l m b 47
  have hR := Lib.hid (fun w (hw : Lw w) => show Calls Tryd.prog 31 #[.agg #[.int .i64 k, .int .i64 c, .int .i64 l, .int .i64 m, .int .u64 b]] w fun e w' => e = .returned (.bool false) ∧ Below w.heap.size w w' from by
    have := right_any k c l m b w hw.2.2.1 hw.2.2.2.1 b0
    rwa [h] at this)
  have hE := Lib.hid (fun w (hw : Lw w) => enc_no k c l m b w hw b0 h)
  have hDX := Lib.hid (fun w (hw : Lw w) => dec_no x w hw h0 h1 hd)
  have hEX := Lib.hid (fun w (hw : Lw w) => show Calls Tryd.prog 29 #[.agg #[.int .i64 0, .int .i64 0, .int .i64 0, .int .i64 0, .int .u64 0]] w fun e w' => e = .returned (.tuple #[.int .u64 0, .int .i64 0]) ∧ Below w.heap.size w w' from by
    have := enc_yes 0 0 0 0 0 w hw (by decide) (by decide +kernel)
    rwa [show wordI 0 0 0 0 0 = 0 by decide +kernel] at this)
  clear h hd
  go_enter Tryd.func11, Tryd.ntmps11
  go_wp2_with fail
  refine (awake10 _ hw1.out).mono ?_
  rintro e w1 ⟨rfl, hb1⟩
  have hw2 := Lib.hid (hw1.out.keep hb1)
  have hk1 := hk0.keep hb1
  have hB1 : Below w.heap.size w w1 := hA.trans (hb1.mono (by simp))
  clear hw1 hk0 hA hb1
  have hk1' := Lib.hid hk1
  obtain ⟨x0, x1, x2, x3, x4⟩ := hk1
  go_wp2_with fail
  refine (hE.out _ hw2.out).mono ?_
  rintro e w2 ⟨rfl, hb2⟩
  have hw3 := Lib.hid (hw2.out.keep hb2)
  have hB2 : Below w.heap.size w w2 := hB1.trans (hb2.mono hB1.size)
  have hk2 := hk1'.out.keep hb2
  clear hw2 hk1' hB1 hb2 x0 x1 x2 x3 x4
  have hk2' := Lib.hid hk2
  obtain ⟨x0, x1, x2, x3, x4⟩ := hk2
  go_wp2_with fail
  have hw4 := hw3
  have hB3 := hB2
  have hk3 := hk2'
  refine (hDX.out _ hw4.out).mono ?_
  rintro e w4 ⟨rfl, hb4⟩
  have hw5 := Lib.hid ((hw4.out.keep hb4).alloc (.cells #[.int .i64 0, .int .i64 0, .int .i64 0, .int .i64 0, .int .u64 0] 47))
  have hB4' : Below w.heap.size w w4 := hB3.trans (hb4.mono hB3.size)
  have hB4 : Below w.heap.size w (w4.alloc (.cells #[.int .i64 0, .int .i64 0, .int .i64 0, .int .i64 0, .int .u64 0] 47)) := hB4'.alloc hB4'.size _
  have hk4 := Lib.hid ((hk3.out.keep hb4).keep ((Below.refl _ _).alloc (Nat.le_refl _) (.cells #[.int .i64 0, .int .i64 0, .int .i64 0, .int .i64 0, .int .u64 0] 47)))
  have hd0 := C5.new w4 0 0 0 0 0 47
  clear hw4 hk3 hB3 hb4 hB4'
  go_wp2_with fail
  refine (hEX.out _ hw5.out).mono ?_
  rintro e w5 ⟨rfl, hb5⟩
  have hw6 := Lib.hid (hw5.out.keep hb5)
  have hB5 : Below w.heap.size w w5 := hB4.trans (hb5.mono hB4.size)
  have hk5 := hk4.out.keep hb5
  have hd5 := hd0.keep hb5
  have hlt5 : w4.heap.size < w5.heap.size := hd5.lt
  obtain ⟨x0, x1, x2, x3, x4⟩ := hk5
  obtain ⟨z0, z1, z2, z3, z4⟩ := hd5
  clear hw5 hk4 hd0 hB4 hb5
  go_wp2_with fail
  refine (hR.out _ hw6.out).mono ?_
  rintro e w6 ⟨rfl, hb6⟩
  have hB6 : Below w.heap.size w w6 := hB5.trans (hb6.mono hB5.size)
  go_wp2_with fail
  go_ret
  exact ⟨rfl, hB6⟩

theorem chunkBack (k c l m b x : Int) (w : World) (hw : Lw w) (b0 : 0 ≤ b) (h0 : 0 ≤ x) (h1 : x < 18446744073709551616) :
    Calls Tryd.prog 11 #[.agg #[.int .i64 k, .int .i64 c, .int .i64 l, .int .i64 m, .int .u64 b], .int .u64 x] w fun e w' => e = .returned (.bool true) ∧ Below w.heap.size w w' := by
  cases h : rightB k c l m b
  · cases hd : decB x
    · exact chunkBack_nn k c l m b x w hw b0 h0 h1 h hd
    · exact chunkBack_ny k c l m b x w hw b0 h0 h1 h hd
  · cases hd : decB x
    · exact chunkBack_yn k c l m b x w hw b0 h0 h1 h hd
    · exact chunkBack_yy k c l m b x w hw b0 h0 h1 h hd

end Go.Proofs.YtnhbpenejlocaaaDoor