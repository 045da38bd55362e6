/-
  Part of the proof of MendPart.
-/
import Derived.Test.YtkdhdibjbabgfaaGreatDoorVp7
import Derived.Lib.Hide
import Derived.Test.YtkdhdibjbabgfaaGreatDoorVp0
set_option maxRecDepth 10000
set_option maxHeartbeats 400000
set_option linter.unusedVariables false
set_option linter.unusedSimpArgs false
namespace Go.Proofs.YtkdhdibjbabgfaaGreatDoor
open Go.RowKit
theorem ret_uu {a b c d : Int} (h : a = b) (h' : c = d) : Ending.returned (.tuple #[.int .u64 a, .int .i64 c]) = .returned (.tuple #[.int .u64 b, .int .i64 d]) := by rw [h, h']
theorem get_stage (x : Int) (w : World) (h0 : 0 ≤ x) (h1 : x < 18446744073709551616) :
 Calls Tryz.prog 94 #[.int .u64 x, .int .i64 0, .int .i64 2] w fun e w' => e = .returned (.int .u64 (x % 4)) ∧ w = w' := by
 refine (get_yes x 0 2 w h0 h1 (by omega) (by omega) (by omega) (by omega)).mono ?_
 rintro e w' ⟨rfl, rfl⟩
 refine ⟨?_, rfl⟩
 obtain ⟨X, rfl⟩ := Int.eq_ofNat_of_zero_le h0
 simp [getI, getN]
theorem get_count (x : Int) (w : World) (h0 : 0 ≤ x) (h1 : x < 18446744073709551616) :
 Calls Tryz.prog 94 #[.int .u64 x, .int .i64 2, .int .i64 14] w fun e w' => e = .returned (.int .u64 (x / 4 % 16384)) ∧ w = w' := by
 refine (get_yes x 2 14 w h0 h1 (by omega) (by omega) (by omega) (by omega)).mono ?_
 rintro e w' ⟨rfl, rfl⟩
 refine ⟨?_, rfl⟩
 obtain ⟨X, rfl⟩ := Int.eq_ofNat_of_zero_le h0
 simp [getI, getN]
theorem get_gen (x : Int) (w : World) (h0 : 0 ≤ x) (h1 : x < 18446744073709551616) :
 Calls Tryz.prog 94 #[.int .u64 x, .int .i64 16, .int .i64 48] w fun e w' => e = .returned (.int .u64 (x / 65536)) ∧ w = w' := by
 refine (get_yes x 16 48 w h0 h1 (by omega) (by omega) (by omega) (by omega)).mono ?_
 rintro e w' ⟨rfl, rfl⟩
 refine ⟨?_, rfl⟩
 obtain ⟨X, rfl⟩ := Int.eq_ofNat_of_zero_le h0
 have e : X / 65536 % 281474976710656 = X / 65536 := Nat.mod_eq_of_lt (by omega)
 simp [getI, getN, e]
theorem put_stage (v : Int) (w : World) (h0 : 0 ≤ v) (h1 : v < 4) :
 Calls Tryz.prog 113 #[.int .u64 0, .int .i64 0, .int .i64 2, .int .u64 v] w fun e w' => e = .returned (.int .u64 v) ∧ w = w' := by
 refine (put_yes 0 0 2 v w (by omega) (by omega) (by omega) (by omega) (by omega) (by omega) h0 (by omega)).mono ?_
 rintro e w' ⟨rfl, rfl⟩
 refine ⟨?_, rfl⟩
 obtain ⟨V, rfl⟩ := Int.eq_ofNat_of_zero_le h0
 have e : V % 4 = V := Nat.mod_eq_of_lt (by omega)
 simp [putI, putN, e]
theorem put_count (x v : Int) (w : World) (hx0 : 0 ≤ x) (hx1 : x < 4) (h0 : 0 ≤ v) (h1 : v < 16384) :
 Calls Tryz.prog 113 #[.int .u64 x, .int .i64 2, .int .i64 14, .int .u64 v] w fun e w' => e = .returned (.int .u64 (x + v * 4)) ∧ w = w' := by
 refine (put_yes x 2 14 v w (by omega) (by omega) (by omega) (by omega) (by omega) (by omega) h0 (by omega)).mono ?_
 rintro e w' ⟨rfl, rfl⟩
 refine ⟨?_, rfl⟩
 obtain ⟨V, rfl⟩ := Int.eq_ofNat_of_zero_le h0
 obtain ⟨X, rfl⟩ := Int.eq_ofNat_of_zero_le hx0
 have e : V % 16384 = V := Nat.mod_eq_of_lt (by omega)
 have e2 : X % 4 = X := Nat.mod_eq_of_lt (by omega)
 have e3 : X / 65536 = 0 := by omega
 simp [putI, putN, e, e2, e3]
theorem put_gen_mk (x v : Int) (w : World) (hx0 : 0 ≤ x) (hx1 : x < 65536) (h0 : 0 ≤ v) (h1 : v < 281474976710656) :
 Calls Tryz.prog 113 #[.int .u64 x, .int .i64 16, .int .i64 48, .int .u64 v] w fun e w' => e = .returned (.int .u64 (x + v * 65536)) ∧ w = w' := by
 refine (put_yes x 16 48 v w (by omega) (by omega) (by omega) (by omega) (by omega) (by omega) h0 (by omega)).mono ?_
 rintro e w' ⟨rfl, rfl⟩
 refine ⟨?_, rfl⟩
 obtain ⟨V, rfl⟩ := Int.eq_ofNat_of_zero_le h0
 obtain ⟨X, rfl⟩ := Int.eq_ofNat_of_zero_le hx0
 have e : V % 281474976710656 = V := Nat.mod_eq_of_lt (by omega)
 have e2 : X % 65536 = X := Nat.mod_eq_of_lt (by omega)
 have e3 : X / 18446744073709551616 = 0 := by omega
 simp [putI, putN, e, e2, e3]
theorem encode_t (s c g : Int) (w : World) (h : okB s c g = true) (hg : 0 ≤ g) :
 Calls Tryz.prog 84 #[.agg #[.int .i64 s, .int .i64 c, .int .u64 g]] w fun e w' => e = .returned (.tuple #[.int .u64 (s + c * 4 + g * 65536), .int .i64 0]) ∧ Below w.heap.size w w' := by
 obtain ⟨h1, h2, h3, h4, h5, h6⟩ := okB_t h
 clear h6
 have H := lh h
 clear h
 go_enter Tryz.func84, Tryz.ntmps84
 go_wp2_with fail
 refine (right_t_mk _ _ _ _ H.out).mono ?_
 rintro e w1 ⟨rfl, hb⟩
 obtain ⟨hc, hf⟩ := bcell hb
 go_wp2_with (first
  | (go_at_call 113; ((with_reducible refine (put_stage s _ (by omega) (by omega)).mono ?_); rintro e w' ⟨rfl, rfl⟩))
  | (go_at_call 113; ((with_reducible refine (put_count s c _ (by omega) (by omega) (by omega) (by omega)).mono ?_); rintro e w' ⟨rfl, rfl⟩))
  | (go_at_call 113; ((with_reducible refine (put_gen_mk (s + c * 4) g _ (by omega) (by omega) (by omega) (by omega)).mono ?_); rintro e w' ⟨rfl, rfl⟩)))
 go_ret2
 exact ⟨rfl, (bZ _ _).trans (hb.mono (by simp))⟩
theorem refEncode_t (s c g : Int) (w : World) (h : okB s c g = true) (hg : 0 ≤ g) :
 Calls Tryz.prog 34 #[.agg #[.int .i64 s, .int .i64 c, .int .u64 g]] w fun e w' => e = .returned (.tuple #[.int .u64 (s + c * 4 + g * 65536), .int .i64 0]) ∧ Below w.heap.size w w' := by
 obtain ⟨h1, h2, h3, h4, h5, h6⟩ := okB_t h
 clear h6
 have H := lh h
 clear h
 go_enter Tryz.func34, Tryz.ntmps34
 go_wp2_with fail
 refine (refRight_t_mk _ _ _ _ H.out).mono ?_
 rintro e w1 ⟨rfl, hb⟩
 obtain ⟨hc, hf⟩ := bcell hb
 go_wp2_with fail
 go_ret2
 exact ⟨ret_uu (by omega) rfl, (bZ _ _).trans (hb.mono (by simp))⟩
theorem refEncode_f (s c g : Int) (w : World) (h : okB s c g = false) :
 Calls Tryz.prog 34 #[.agg #[.int .i64 s, .int .i64 c, .int .u64 g]] w fun e w' => e = .returned (.tuple #[.int .u64 0, .int .i64 1]) ∧ Below w.heap.size w w' := by
 have H := lh h
 clear h
 go_enter Tryz.func34, Tryz.ntmps34
 go_wp2_with fail
 refine (refRight_f_mk _ _ _ _ H.out).mono ?_
 rintro e w1 ⟨rfl, hb⟩
 obtain ⟨hc, hf⟩ := bcell hb
 go_wp2_with fail
 go_ret2
 exact ⟨rfl, (bZ _ _).trans (hb.mono (by simp))⟩
theorem decode_t (x : Int) (w : World) (h0 : 0 ≤ x) (h1 : x < 18446744073709551616) (h : okB (x % 4) (x / 4 % 16384) (x / 65536) = true) :
 Calls Tryz.prog 68 #[.int .u64 x] w fun e w' => e = .returned (.tuple #[.agg #[.int .i64 (x % 4), .int .i64 (x / 4 % 16384), .int .u64 (x / 65536)], .bool true]) ∧ Below w.heap.size w w' := by
 have H := lh h
 clear h
 go_enter Tryz.func68, Tryz.ntmps68
 go_wp2_with (first
  | (go_at_call 94; ((with_reducible refine (get_stage x _ h0 h1).mono ?_); rintro e w' ⟨rfl, rfl⟩))
  | (go_at_call 94; ((with_reducible refine (get_count x _ h0 h1).mono ?_); rintro e w' ⟨rfl, rfl⟩))
  | (go_at_call 94; ((with_reducible refine (get_gen x _ h0 h1).mono ?_); rintro e w' ⟨rfl, rfl⟩))
  | fail)
 refine (right_t_mk _ _ _ _ H.out).mono ?_
 rintro e w1 ⟨rfl, hb⟩
 obtain ⟨hc, hf⟩ := bcell hb
 have hz : w.heap.size + 1 < w1.heap.size := by have := hb.size; simp at this; omega
 have d0 : w1.cell? ⟨w.heap.size, 0, none⟩ = some (.int .i64 0) := by rw [hc _ _ (by simp; omega)]; simp [go_sem]
 have d1 : w1.cell? ⟨w.heap.size, 1, none⟩ = some (.int .i64 0) := by rw [hc _ _ (by simp; omega)]; simp [go_sem]
 have d2 : w1.cell? ⟨w.heap.size, 2, none⟩ = some (.int .u64 0) := by rw [hc _ _ (by simp; omega)]; simp [go_sem]
 have hB : Below w.heap.size w w1 := ((bZ _ _).alloc (by simp) _).trans (hb.mono (by simp; omega))
 go_wp2_with fail
 refine bodyPost_ret (v := .tuple #[.agg #[.int .i64 (x % 4), .int .i64 (x / 4 % 16384), .int .u64 (x / 65536)], .bool true]) (by simp [results, Tryz.results68, go_sem, d0, d1, d2]) rfl ⟨rfl, ?_⟩
 go_grown
theorem decode_f (x : Int) (w : World) (h0 : 0 ≤ x) (h1 : x < 18446744073709551616) (h : okB (x % 4) (x / 4 % 16384) (x / 65536) = false) :
 Calls Tryz.prog 68 #[.int .u64 x] w fun e w' => e = .returned (.tuple #[.agg #[.int .i64 0, .int .i64 0, .int .u64 0], .bool false]) ∧ Below w.heap.size w w' := by
 have H := lh h
 clear h
 go_enter Tryz.func68, Tryz.ntmps68
 go_wp2_with (first
  | (go_at_call 94; ((with_reducible refine (get_stage x _ h0 h1).mono ?_); rintro e w' ⟨rfl, rfl⟩))
  | (go_at_call 94; ((with_reducible refine (get_count x _ h0 h1).mono ?_); rintro e w' ⟨rfl, rfl⟩))
  | (go_at_call 94; ((with_reducible refine (get_gen x _ h0 h1).mono ?_); rintro e w' ⟨rfl, rfl⟩))
  | fail)
 refine (right_f_mk _ _ _ _ H.out).mono ?_
 rintro e w1 ⟨rfl, hb⟩
 obtain ⟨hc, hf⟩ := bcell hb
 have hz : w.heap.size + 1 < w1.heap.size := by have := hb.size; simp at this; omega
 have d0 : w1.cell? ⟨w.heap.size, 0, none⟩ = some (.int .i64 0) := by rw [hc _ _ (by simp; omega)]; simp [go_sem]
 have d1 : w1.cell? ⟨w.heap.size, 1, none⟩ = some (.int .i64 0) := by rw [hc _ _ (by simp; omega)]; simp [go_sem]
 have d2 : w1.cell? ⟨w.heap.size, 2, none⟩ = some (.int .u64 0) := by rw [hc _ _ (by simp; omega)]; simp [go_sem]
 have hB : Below w.heap.size w w1 := ((bZ _ _).alloc (by simp) _).trans (hb.mono (by simp; omega))
 go_wp2_with fail
 refine bodyPost_ret (v := .tuple #[.agg #[.int .i64 0, .int .i64 0, .int .u64 0], .bool false]) (by simp [results, Tryz.results68, go_sem, d0, d1, d2]) rfl ⟨rfl, ?_⟩
 go_grown
end Go.Proofs.YtkdhdibjbabgfaaGreatDoor
