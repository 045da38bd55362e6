/-
  The laws of package chunk: ChunkLives, class 2.
-/
import Derived.Test.YtnhbpenejlocaaaDoorChunk16
set_option linter.unusedVariables false
namespace Go.Proofs.YtnhbpenejlocaaaDoor
open Go.RowKit
set_option maxRecDepth 20000 in
set_option maxHeartbeats 3000000 in
theorem chunkLives_2 (k b i : Int) (w : World) (hw : Lw w) (k0 : 0 ≤ k) (k1 : k ≤ 255) (b0 : 0 ≤ b) (b1 : b ≤ 255) (i0 : 0 ≤ i) (i1 : i ≤ 255) (hk : k % 3 = 2) :
    Calls Tryd.prog 12 #[.int .u8 k, .int .u8 b, .int .u8 i] w fun e w' => e = .returned (.bool true) ∧ Below w.heap.size w w' := by
  obtain ⟨j, hj⟩ := Int.eq_ofNat_of_zero_le (show 0 ≤ i % 2 by omega)
  obtain ⟨q, hq⟩ := Int.eq_ofNat_of_zero_le (show 0 ≤ b % 4 by omega)
  have hjM : j < 2 := by omega
  have hqM : q < 4 := by omega
  replace hj := Lib.hid hj
  replace hq := Lib.hid hq
  replace hk := Lib.hid hk
  have hw1 := Lib.hid hw
  clear hw
  go_enter Tryd.func12, Tryd.ntmps12
  go_wp2_with fail
  refine (awake10 _ hw1.out).mono ?_
  rintro e w1 ⟨rfl, hb1⟩
  have hw2 := Lib.hid (hw1.out.keep hb1)
  go_wp2_with fail
  simp only [hk.out]
  refine (refMny_2 2 _ rfl).mono ?_
  rintro e w2 ⟨rfl, rfl⟩
  go_wp2_with fail
  simp only [hq.out, hj.out]
  clear hq hj hk i0 i1 k0 k1 b0 b1
  obtain ⟨U, hU⟩ : ∃ U, U = q ||| 2 ^ j := ⟨_, rfl⟩
  obtain ⟨D, hD⟩ : ∃ D, D = q &&& (18446744073709551615 - 2 ^ j) := ⟨_, rfl⟩
  have hU1 : U < 4 := by
    rw [hU]
    have : 2 ^ j < 2 ^ 2 := Nat.pow_lt_pow_right (by omega) hjM
    exact Nat.or_lt_two_pow (n := 2) hqM this
  have hD1 : D < 4 := by
    have : D ≤ q := by rw [hD]; exact Nat.and_le_left
    omega
  have hOr := Lib.hid (show bits .or .u64 (wordI 1 2 0 0 q) (16777216 * pwI j) = wordI 1 2 0 0 U from by rw [hU]; exact word_or 2 q j (by omega) (by omega) (by omega) (by omega))
  have hNot := Lib.hid (show bits .andNot .u64 (wordI 1 2 0 0 q) (16777216 * pwI j) = wordI 1 2 0 0 D from by rw [hD]; exact word_not 2 q j (by omega) (by omega) (by omega) (by omega))
  replace hU := Lib.hid hU
  replace hD := Lib.hid hD
  have hEnc := Lib.hid (fun w (hw : Lw w) => enc_yes 1 2 0 0 q w hw (by omega) (run_right 2 q (by omega)))
  have hDU := Lib.hid (fun w (hw : Lw w) => dec_word 1 2 0 0 U w hw (by omega) (run_right 2 U (by omega)))
  have hDD := Lib.hid (fun w (hw : Lw w) => dec_word 1 2 0 0 D w hw (by omega) (run_right 2 D (by omega)))
  have hBit := Lib.hid (fun w (hw : Lw w) => bit_any j w hw (by omega))
  have hC0 := C5.new w1 1 2 0 0 q 47
  refine (hEnc.out _ (hw2.out.alloc _)).mono ?_
  rintro e w3 ⟨rfl, hb3⟩
  have hw3 := Lib.hid ((hw2.out.alloc _).keep hb3)
  have hC3 := Lib.hid (hC0.keep hb3)
  have hB3 : Below w.heap.size w w3 := (hb1.alloc hb1.size _).trans (hb3.mono (by have := hb1.size; simp; omega))
  clear hw2 hb1 hb3 hC0
  go_wp2_with fail
  refine (hBit.out _ hw3.out).mono ?_
  rintro e w4 ⟨rfl, hb4⟩
  have hw4 := Lib.hid (hw3.out.keep hb4)
  have hC4 := Lib.hid (hC3.out.keep hb4)
  have hB4 : Below w.heap.size w w4 := hB3.trans (hb4.mono hB3.size)
  clear hw3 hC3 hB3 hb4
  go_wp2_with fail
  simp only [hOr.out]
  refine (hDU.out _ hw4.out).mono ?_
  rintro e w5 ⟨rfl, hb5⟩
  have hw5 := Lib.hid ((hw4.out.keep hb5).alloc (.cells #[.int .i64 1, .int .i64 2, .int .i64 0, .int .i64 0, .int .u64 U] 47))
  have hC5 := Lib.hid ((hC4.out.keep hb5).keep ((Below.refl _ _).alloc (Nat.le_refl _) (.cells #[.int .i64 1, .int .i64 2, .int .i64 0, .int .i64 0, .int .u64 U] 47)))
  have hU5 := Lib.hid (C5.new w5 1 2 0 0 U 47)
  have hB5' : Below w.heap.size w w5 := hB4.trans (hb5.mono hB4.size)
  have hB5 := hB5'.alloc hB5'.size (.cells #[.int .i64 1, .int .i64 2, .int .i64 0, .int .i64 0, .int .u64 U] 47)
  clear hw4 hC4 hB4 hb5 hB5'
  go_wp2_with fail
  refine (hBit.out _ hw5.out).mono ?_
  rintro e w6 ⟨rfl, hb6⟩
  have hw6 := Lib.hid (hw5.out.keep hb6)
  have hC6 := Lib.hid (hC5.out.keep hb6)
  have hU6 := Lib.hid (hU5.out.keep hb6)
  have hB6 : Below w.heap.size w w6 := hB5.trans (hb6.mono hB5.size)
  clear hw5 hC5 hU5 hB5 hb6
  go_wp2_with fail
  simp only [hNot.out]
  refine (hDD.out _ hw6.out).mono ?_
  rintro e w7 ⟨rfl, hb7⟩
  have hw7 := Lib.hid ((hw6.out.keep hb7).alloc (.cells #[.int .i64 1, .int .i64 2, .int .i64 0, .int .i64 0, .int .u64 D] 47))
  have hC7 := ((hC6.out.keep hb7).keep ((Below.refl _ _).alloc (Nat.le_refl _) (.cells #[.int .i64 1, .int .i64 2, .int .i64 0, .int .i64 0, .int .u64 D] 47)))
  have hU7 := ((hU6.out.keep hb7).keep ((Below.refl _ _).alloc (Nat.le_refl _) (.cells #[.int .i64 1, .int .i64 2, .int .i64 0, .int .i64 0, .int .u64 D] 47)))
  have hD7 := C5.new w7 1 2 0 0 D 47
  have hB7' : Below w.heap.size w w7 := hB6.trans (hb7.mono hB6.size)
  have hB7 := hB7'.alloc hB7'.size (.cells #[.int .i64 1, .int .i64 2, .int .i64 0, .int .i64 0, .int .u64 D] 47)
  clear hw6 hC6 hU6 hB6 hb7 hB7'
  obtain ⟨w8, hw8⟩ : ∃ w8, w8 = w7.alloc (.cells #[.int .i64 1, .int .i64 2, .int .i64 0, .int .i64 0, .int .u64 D] 47) := ⟨_, rfl⟩
  have hz7 : w7.heap.size < w8.heap.size := by rw [hw8]; simp
  rw [← hw8] at hw7 hC7 hU7 hD7 hB7
  obtain ⟨c0, c1, c2, c3, c4⟩ := hC7
  go_wp2_with fail
  rw [← hw8]
  clear hw8
  have hp2 : IntKind.u64.wrap ((2 : Int) ^ j) = ((2 ^ j : Nat) : Int) := by
    have : 2 ^ j < 2 ^ 2 := Nat.pow_lt_pow_right (by omega) hjM
    rw [IntKind.wrap_u64, pow_cast]
    generalize 2 ^ j = y at *
    omega
  have hV1 := Lib.hid (show bits .or .u64 (q : Int) (IntKind.u64.wrap ((2 : Int) ^ j)) = (U : Int) from by
    have : 2 ^ j < 2 ^ 2 := Nat.pow_lt_pow_right (by omega) hjM
    rw [hp2, u64_or_nat _ _ (by omega) (by omega), hU.out])
  have hV2 := Lib.hid (show bits .andNot .u64 (q : Int) (IntKind.u64.wrap ((2 : Int) ^ j)) = (D : Int) from by
    have : 2 ^ j < 2 ^ 2 := Nat.pow_lt_pow_right (by omega) hjM
    rw [hp2, u64_andNot_nat _ _ (by omega) (by omega), hD.out])
  clear hp2
  have hC8 := Lib.hid (show C5 w8 w1.heap.size 1 2 0 0 q from ⟨c0, c1, c2, c3, c4⟩)
  clear c0 c1 c2 c3
  refine wp_region_held_drew (S := (fun w' => w'.cell? ⟨w1.heap.size, 4, none⟩ = some (.int .u64 q))) (by kernel_rfl) ?_ (fun hHeld => ?_)
  · (try dsimp only)
    first | exact c4 | exact cellK c4 ((Below.refl _ _).alloc (Nat.le_refl _) _) | exact cellK c4 (((Below.refl _ _).alloc (Nat.le_refl _) _).drew)
  refine takeL 0 (v := ?_) rfl (by kernel_rfl) (by kernel_rfl) (by kernel_rfl) (fun _ _ _ h => h) (by rfl) (by assumption) ?_ ?_
  rotate_left
  · (intro w hSw; (try dsimp only at hSw); go_simp <;> with_reducible rfl)
  try simp only [Act.put, List.setIfInBounds_toArray, List.set_cons_zero, List.set_cons_succ]
  refine takeL 1 (v := ?_) rfl (by kernel_rfl) (by kernel_rfl) (by kernel_rfl) (fun _ _ _ h => h) (by rfl) (by assumption) ?_ ?_
  rotate_left
  · (intro w hSw; (try dsimp only at hSw); go_simp <;> with_reducible rfl)
  try simp only [Act.put, List.setIfInBounds_toArray, List.set_cons_zero, List.set_cons_succ]
  refine takeL 2 (v := ?_) rfl (by kernel_rfl) (by kernel_rfl) (by kernel_rfl) (fun _ _ _ h => h) (by rfl) (by assumption) ?_ ?_
  rotate_left
  · (intro w hSw; (try dsimp only at hSw); go_simp <;> with_reducible rfl)
  try simp only [Act.put, List.setIfInBounds_toArray, List.set_cons_zero, List.set_cons_succ]
  refine takeL 3 (v := ?_) rfl (by kernel_rfl) (by kernel_rfl) (by kernel_rfl) (fun _ _ _ h => h) (by rfl) (by assumption) ?_ ?_
  rotate_left
  · (intro w hSw; (try dsimp only at hSw); go_simp <;> with_reducible rfl)
  try simp only [Act.put, List.setIfInBounds_toArray, List.set_cons_zero, List.set_cons_succ]
  refine takeL 4 (v := ?_) rfl (by kernel_rfl) (by kernel_rfl) (by kernel_rfl) (fun _ _ _ h => h) (by rfl) (by assumption) ?_ ?_
  rotate_left
  · (intro w hSw; (try dsimp only at hSw); go_simp <;> with_reducible rfl)
  try simp only [Act.put, List.setIfInBounds_toArray, List.set_cons_zero, List.set_cons_succ]
  refine takeL 5 (v := ?_) rfl (by kernel_rfl) (by kernel_rfl) (by kernel_rfl) (fun _ _ _ h => h) (by rfl) (by assumption) ?_ ?_
  rotate_left
  · (intro w hSw; (try dsimp only at hSw); go_simp <;> with_reducible rfl)
  try simp only [Act.put, List.setIfInBounds_toArray, List.set_cons_zero, List.set_cons_succ]
  refine takeL 6 (v := ?_) rfl (by kernel_rfl) (by kernel_rfl) (by kernel_rfl) (fun _ _ _ h => h) (by rfl) (by assumption) ?_ ?_
  rotate_left
  · (intro w hSw; (try dsimp only at hSw); go_simp <;> with_reducible rfl)
  try simp only [Act.put, List.setIfInBounds_toArray, List.set_cons_zero, List.set_cons_succ]
  refine oneL 7 rfl (by kernel_rfl) (fun K hK => ?_)
  go_simp
  skip
  refine hK.out _ _ ?_ (fun hHeld2 => ?_)
  · (try dsimp only)
    first | exact c4 | exact cellK c4 ((Below.refl _ _).alloc (Nat.le_refl _) _) | exact cellK c4 (((Below.refl _ _).alloc (Nat.le_refl _) _).drew)
  clear hK K hHeld
  have hHeld := hHeld2
  clear hHeld2
  try simp only [Act.put, List.setIfInBounds_toArray, List.set_cons_zero, List.set_cons_succ]
  refine oneL 8 rfl (by kernel_rfl) (fun K hK => ?_)
  go_simp
  skip
  refine hK.out _ _ ?_ (fun hHeld2 => ?_)
  · (try dsimp only)
    first | exact c4 | exact cellK c4 ((Below.refl _ _).alloc (Nat.le_refl _) _) | exact cellK c4 (((Below.refl _ _).alloc (Nat.le_refl _) _).drew)
  clear hK K hHeld
  have hHeld := hHeld2
  clear hHeld2
  try simp only [Act.put, List.setIfInBounds_toArray, List.set_cons_zero, List.set_cons_succ]
  refine wpAnyH_done (by kernel_rfl) ?_ _
  clear hHeld c4
  simp only [hV1.out]
  obtain ⟨w9, hw9⟩ : ∃ v, v = ((w8).alloc (.cells #[.int .i64 1, .int .i64 2, .int .i64 0, .int .i64 0, .int .u64 U] 47)).drew := ⟨_, rfl⟩
  have hbw9 : Below w8.heap.size w8 w9 := by rw [hw9]; exact ((Below.refl _ _).alloc (Nat.le_refl _) _).drew
  have hnw9 : C5 w9 w8.heap.size 1 2 0 0 U := by rw [hw9]; exact C5.new w8 1 2 0 0 U 47
  rw [← hw9]
  clear hw9
  have hC9 := hC8.out.keep hbw9
  have hU9 := Lib.hid (hU7.keep hbw9)
  have hD9 := Lib.hid (hD7.keep hbw9)
  have hX9 := Lib.hid hnw9
  have hL9 := Lib.hid (hw7.out.keep hbw9)
  have hB9 : Below w.heap.size w w9 := hB7.trans (hbw9.mono hB7.size)
  have hz8 : w8.heap.size < w9.heap.size := hnw9.lt
  obtain ⟨c0, c1, c2, c3, c4⟩ := hC9
  clear hC8 hU7 hD7 hbw9 hnw9 hw7 hB7
  go_wp2_with fail
  refine wp_region_held_drew (S := (fun w' => w'.cell? ⟨w1.heap.size, 4, none⟩ = some (.int .u64 q))) (by kernel_rfl) ?_ (fun hHeld => ?_)
  · (try dsimp only)
    first | exact c4 | exact cellK c4 ((Below.refl _ _).alloc (Nat.le_refl _) _) | exact cellK c4 (((Below.refl _ _).alloc (Nat.le_refl _) _).drew)
  refine takeL 0 (v := ?_) rfl (by kernel_rfl) (by kernel_rfl) (by kernel_rfl) (fun _ _ _ h => h) (by rfl) (by assumption) ?_ ?_
  rotate_left
  · (intro w hSw; (try dsimp only at hSw); go_simp <;> with_reducible rfl)
  try simp only [Act.put, List.setIfInBounds_toArray, List.set_cons_zero, List.set_cons_succ]
  refine takeL 1 (v := ?_) rfl (by kernel_rfl) (by kernel_rfl) (by kernel_rfl) (fun _ _ _ h => h) (by rfl) (by assumption) ?_ ?_
  rotate_left
  · (intro w hSw; (try dsimp only at hSw); go_simp <;> with_reducible rfl)
  try simp only [Act.put, List.setIfInBounds_toArray, List.set_cons_zero, List.set_cons_succ]
  refine takeL 2 (v := ?_) rfl (by kernel_rfl) (by kernel_rfl) (by kernel_rfl) (fun _ _ _ h => h) (by rfl) (by assumption) ?_ ?_
  rotate_left
  · (intro w hSw; (try dsimp only at hSw); go_simp <;> with_reducible rfl)
  try simp only [Act.put, List.setIfInBounds_toArray, List.set_cons_zero, List.set_cons_succ]
  refine takeL 3 (v := ?_) rfl (by kernel_rfl) (by kernel_rfl) (by kernel_rfl) (fun _ _ _ h => h) (by rfl) (by assumption) ?_ ?_
  rotate_left
  · (intro w hSw; (try dsimp only at hSw); go_simp <;> with_reducible rfl)
  try simp only [Act.put, List.setIfInBounds_toArray, List.set_cons_zero, List.set_cons_succ]
  refine takeL 4 (v := ?_) rfl (by kernel_rfl) (by kernel_rfl) (by kernel_rfl) (fun _ _ _ h => h) (by rfl) (by assumption) ?_ ?_
  rotate_left
  · (intro w hSw; (try dsimp only at hSw); go_simp <;> with_reducible rfl)
  try simp only [Act.put, List.setIfInBounds_toArray, List.set_cons_zero, List.set_cons_succ]
  refine takeL 5 (v := ?_) rfl (by kernel_rfl) (by kernel_rfl) (by kernel_rfl) (fun _ _ _ h => h) (by rfl) (by assumption) ?_ ?_
  rotate_left
  · (intro w hSw; (try dsimp only at hSw); go_simp <;> with_reducible rfl)
  try simp only [Act.put, List.setIfInBounds_toArray, List.set_cons_zero, List.set_cons_succ]
  refine takeL 6 (v := ?_) rfl (by kernel_rfl) (by kernel_rfl) (by kernel_rfl) (fun _ _ _ h => h) (by rfl) (by assumption) ?_ ?_
  rotate_left
  · (intro w hSw; (try dsimp only at hSw); go_simp <;> with_reducible rfl)
  try simp only [Act.put, List.setIfInBounds_toArray, List.set_cons_zero, List.set_cons_succ]
  refine oneL 7 rfl (by kernel_rfl) (fun K hK => ?_)
  go_simp
  skip
  refine hK.out _ _ ?_ (fun hHeld2 => ?_)
  · (try dsimp only)
    first | exact c4 | exact cellK c4 ((Below.refl _ _).alloc (Nat.le_refl _) _) | exact cellK c4 (((Below.refl _ _).alloc (Nat.le_refl _) _).drew)
  clear hK K hHeld
  have hHeld := hHeld2
  clear hHeld2
  try simp only [Act.put, List.setIfInBounds_toArray, List.set_cons_zero, List.set_cons_succ]
  refine oneL 8 rfl (by kernel_rfl) (fun K hK => ?_)
  go_simp
  skip
  refine hK.out _ _ ?_ (fun hHeld2 => ?_)
  · (try dsimp only)
    first | exact c4 | exact cellK c4 ((Below.refl _ _).alloc (Nat.le_refl _) _) | exact cellK c4 (((Below.refl _ _).alloc (Nat.le_refl _) _).drew)
  clear hK K hHeld
  have hHeld := hHeld2
  clear hHeld2
  try simp only [Act.put, List.setIfInBounds_toArray, List.set_cons_zero, List.set_cons_succ]
  refine wpAnyH_done (by kernel_rfl) ?_ _
  clear hHeld
  simp only [hV2.out]
  obtain ⟨w10, hw10⟩ : ∃ v, v = ((w9).alloc (.cells #[.int .i64 1, .int .i64 2, .int .i64 0, .int .i64 0, .int .u64 D] 47)).drew := ⟨_, rfl⟩
  have hbw10 : Below w9.heap.size w9 w10 := by rw [hw10]; exact ((Below.refl _ _).alloc (Nat.le_refl _) _).drew
  have hnw10 : C5 w10 w9.heap.size 1 2 0 0 D := by rw [hw10]; exact C5.new w9 1 2 0 0 D 47
  rw [← hw10]
  clear hw10
  have hU10 := hU9.out.keep hbw10
  have hD10 := hD9.out.keep hbw10
  have hX10 := hX9.out.keep hbw10
  have hL10 := Lib.hid (hL9.out.keep hbw10)
  have hB10 : Below w.heap.size w w10 := hB9.trans (hbw10.mono hB9.size)
  have hz9 : w9.heap.size < w10.heap.size := hnw10.lt
  have hlv := lives_2 q hqM j hjM
  unfold livesB at hlv
  rw [← hU.out, ← hD.out] at hlv
  obtain ⟨l0, l1, l2⟩ := of_decide_eq_true hlv
  have hRU := Lib.hid (fun w (hw : Lw w) => room_run 2 0 0 U w hw (by omega))
  have hRD := Lib.hid (fun w (hw : Lw w) => room_run 2 0 0 D w hw (by omega))
  have hEm := Lib.hid (empty_any 1 2 0 0 D)
  generalize roomI 2 U = ru at *
  generalize roomI 2 D = rd at *
  have l3 : (ru == (j : Int)) = false := by simpa using l2
  clear hlv hU hD hU9 hD9 hX9 hL9 hB9 hbw10 c0 c1 c2 c3 c4 hOr hNot hEnc hDU hDD hBit hV1 hV2
  have HU := Lib.hid hU10
  have HD := Lib.hid hD10
  have HY := Lib.hid hnw10
  obtain ⟨u0, u1, u2, u3, u4⟩ := hU10
  obtain ⟨d0, d1, d2, d3, d4⟩ := hD10
  obtain ⟨x0, x1, x2, x3, x4⟩ := hX10
  obtain ⟨y0, y1, y2, y3, y4⟩ := hnw10
  have e1 : ((U : Int) == (U : Int)) = true := by simp
  have e2 : ((D : Int) == (D : Int)) = true := by simp
  have hyU : w5.heap.size < w10.heap.size := HU.out.lt
  have hyD : w7.heap.size < w10.heap.size := HD.out.lt
  go_wp2_with fail
  refine (hRD.out _ hL10.out).mono ?_
  rintro e w11 ⟨rfl, hb11⟩
  have hL11 := Lib.hid (hL10.out.keep hb11)
  have hB11 : Below w.heap.size w w11 := hB10.trans (hb11.mono hB10.size)
  clear u0 u1 u2 u3 u4 d0 d1 d2 d3 d4 x0 x1 x2 x3 x4 y0 y1 y2 y3 y4
  replace HU := Lib.hid (HU.out.keep hb11)
  replace HD := Lib.hid (HD.out.keep hb11)
  replace HY := Lib.hid (HY.out.keep hb11)
  obtain ⟨d0, d1, d2, d3, d4⟩ := HD.out
  clear hL10 hB10 hb11
  go_wp2_with fail
  refine (hRD.out _ hL11.out).mono ?_
  rintro e w12 ⟨rfl, hb12⟩
  have hL12 := Lib.hid (hL11.out.keep hb12)
  have hB12 : Below w.heap.size w w12 := hB11.trans (hb12.mono hB11.size)
  clear d0 d1 d2 d3 d4
  replace HU := Lib.hid (HU.out.keep hb12)
  replace HD := Lib.hid (HD.out.keep hb12)
  replace HY := Lib.hid (HY.out.keep hb12)
  obtain ⟨d0, d1, d2, d3, d4⟩ := HU.out
  clear hL11 hB11 hb12
  go_wp2_with fail
  refine (hRU.out _ hL12.out).mono ?_
  rintro e w13 ⟨rfl, hb13⟩
  have hB13 : Below w.heap.size w w13 := hB12.trans (hb13.mono hB12.size)
  clear d0 d1 d2 d3 d4
  replace HD := Lib.hid (HD.out.keep hb13)
  replace HY := (HY.out.keep hb13)
  obtain ⟨d0, d1, d2, d3, d4⟩ := HD.out
  obtain ⟨y0, y1, y2, y3, y4⟩ := HY
  clear hL12 hB12 hb13 HU
  by_cases hD0 : D = 0
  · have hEm3 := Lib.hid (fun w => show Calls Tryd.prog 37 #[.agg #[.int .i64 1, .int .i64 2, .int .i64 0, .int .i64 0, .int .u64 0]] w fun e w' => e = .returned (.bool true) ∧ Below w.heap.size w w' from
      (empty_any 1 2 0 0 0 w).mono (fun e w' ⟨h, k⟩ => ⟨by rw [h]; simp, k⟩))
    clear hEm
    go_wp2_with fail
    refine (hEm3.out _).mono ?_
    rintro e w14 ⟨rfl, hb14⟩
    have hB14 : Below w.heap.size w w14 := hB13.trans (hb14.mono hB13.size)
    go_wp2_with fail
    go_ret
    exact ⟨ret_b (by first | rfl | (simp; done) | (simp [*]; done)), hB14⟩
  · have hD1 : ((D : Int) == 0) = false := by simpa using hD0
    go_wp2_with fail
    go_ret
    exact ⟨ret_b (by first | rfl | (simp; done) | (simp [*]; done)), hB13⟩

end Go.Proofs.YtnhbpenejlocaaaDoor