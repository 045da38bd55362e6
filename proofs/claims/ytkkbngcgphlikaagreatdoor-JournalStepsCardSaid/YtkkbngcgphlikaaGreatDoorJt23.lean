/-
  Part of the proof of JournalSteps.
-/
import Derived.Test.YtkkbngcgphlikaaGreatDoorJt22
import Derived.Test.YtkkbngcgphlikaaGreatDoorJt0
set_option maxRecDepth 10000
set_option maxHeartbeats 1000000
set_option linter.unusedVariables false
set_option linter.unusedSimpArgs false
section
namespace Go.Proofs.YtkkbngcgphlikaaGreatDoor
open Go.RowKit Go.ChangeShapes Go.WideShapes Go.Deep
theorem swapRange_any (F : Value) (x y m lo hi base g n cap : Nat) (d0 : List Nat) (w0 w : World) (S0 : SD w0 base g n cap d0 w) (h1 : lo ≤ x) (h2 : x + m ≤ y) (h3 : y + m ≤ hi) (h4 : hi ≤ n) (hn : n ≤ 100000) :
 Calls Tryz.prog 226 #[.slice (some ⟨g, 0, none⟩) n cap, .int .i64 x, .int .i64 y, .int .i64 m, F] w fun e w' => e = .returned (.tuple #[]) ∧ ∃ d1, SD w0 base g n cap d1 w' ∧ SwR d0 d1 x y m ∧ Mv lo hi d0 d1 := by
 have hl0 := lh S0.len
 replace S0 := lh S0
 go_enter Tryz.func226, Tryz.ntmps226
 go_wp2_with fail
 go_loopw [10] (fun i wr => ∃ (k : Nat) (d : List Nat), k ≤ m ∧ i = .int .i64 k ∧ Hid (SD w0 base g n cap d wr) ∧ Hid (SwR d0 d x y k) ∧ Hid (Mv lo hi d0 d)) (fun i _ => m + 1 - (intOf i).toNat)
 case atStart => exact ⟨0, d0, Nat.zero_le _, rfl, S0, SwR.zero _ _ _, Mv.refl _ _ _⟩
 obtain ⟨k, d, hk, rfl, S1, R1, M1⟩ := hrel
 by_cases hlt : k < m
 rotate_left
 ·obtain rfl : k = m := by omega
  go_wp2_with fail
  go_end0
  exact ⟨rfl, d, S1.out, R1.out, M1.out⟩
 have hltz : (k : Int) < (m : Int) := by omega
 obtain ⟨i, hi'⟩ : ∃ i, x + k = i := ⟨_, rfl⟩
 obtain ⟨j, hj'⟩ : ∃ j, y + k = j := ⟨_, rfl⟩
 have hin : i < n := by omega
 have hjn : j < n := by omega
 have hl1 := lh S1.out.len
 have R2 := lh (R1.out.step (by omega) (by rw [hl0.out]; omega))
 rw [hi', hj'] at R2
 have M2 := lh (M1.out.trans (Mv.swap (d := d) (i := i) (j := j) (by omega) (by omega) (by omega) (by omega) (by rw [hl1.out]; omega)))
 have e1 : (x : Int) + (k : Int) = (i : Int) := by omega
 have e2 : (y : Int) + (k : Int) = (j : Int) := by omega
 have e3 : IntKind.i64.wrap (i : Int) = (i : Int) := by rw [IntKind.wrap_i64]; omega
 have e4 : IntKind.i64.wrap (j : Int) = (j : Int) := by rw [IntKind.wrap_i64]; omega
 have b1 : (i : Int) < (n : Int) := by omega
 have b2 : (j : Int) < (n : Int) := by omega
 obtain ⟨a, ha⟩ : ∃ a, d.getD i 0 = a := ⟨_, rfl⟩
 obtain ⟨c, hc⟩ : ∃ c, d.getD j 0 = c := ⟨_, rfl⟩
 have hS := lh (S1.out.swap i j a c hin hjn ha hc)
 obtain ⟨c0, f0⟩ := S1.out.cell i hin
 obtain ⟨c1, f1⟩ := S1.out.cell j hjn
 rw [ha] at c0
 rw [hc] at c1
 obtain ⟨u9, c9⟩ := S1.out.other i j c hin hjn
 clear ha hc hi' hj' S1 R1 M1
 go_wp2_with fail
 go_big_region
 (try simp only [Exit.inBlock, Exit.then])
 go_wp2_with fail
 go_roundw
 case rel => exact ⟨k + 1, _, by omega, by go_num, hS, R2, M2⟩
 first | (simp [intOf]; done) | (simp [intOf]; omega)
theorem rotate_any (F : Value) (a m b base g n cap : Nat) (d0 : List Nat) (w0 w : World) (S0 : SD w0 base g n cap d0 w) (h1 : a < m) (h2 : m < b) (h4 : b ≤ n) (hn : n ≤ 100000) :
 Calls Tryz.prog 224 #[.slice (some ⟨g, 0, none⟩) n cap, .int .i64 a, .int .i64 m, .int .i64 b, F] w fun e w' => e = .returned (.tuple #[]) ∧ ∃ d1, SD w0 base g n cap d1 w' ∧ (∀ k, d1.getD k 0 = rotF d0 a m b k) ∧ Mv a b d0 d1 := by
 replace S0 := lh S0
 have e1 : (m : Int) - (a : Int) = ((m - a : Nat) : Int) := by omega
 have e2 : (b : Int) - (m : Int) = ((b - m : Nat) : Int) := by omega
 go_enter Tryz.func224, Tryz.ntmps224
 go_wp2_with fail
 try rw [e1, e2]
 clear e1 e2
 go_loopw [10, 11] (fun u v wr => ∃ (i j : Nat) (d : List Nat), 0 < i ∧ 0 < j ∧ i ≤ m - a ∧ j ≤ b - m ∧ u = .int .i64 i ∧ v = .int .i64 j ∧ Hid (SD w0 base g n cap d wr) ∧ Hid (∀ k, rotF d (m - i) m (m + j) k = rotF d0 a m b k) ∧ Hid (Mv a b d0 d)) (fun u v _ => (intOf u).toNat + (intOf v).toNat)
 case atStart => exact ⟨m - a, b - m, d0, by omega, by omega, Nat.le_refl _, Nat.le_refl _, rfl, rfl, S0, (show ∀ k, _ from by rw [show m - (m - a) = a by omega, show m + (b - m) = b by omega]; exact fun _ => rfl), Mv.refl _ _ _⟩
 obtain ⟨i, j, d, hi0, hj0, hia, hjb, rfl, rfl, S1, R1, M1⟩ := hrel
 have e3 : (m : Int) - (i : Int) = ((m - i : Nat) : Int) := by omega
 have e4 : (m : Int) + (j : Int) - (i : Int) = ((m + j - i : Nat) : Int) := by omega
 rcases Nat.lt_trichotomy i j with q | q | q
 ·have q1 : ((i : Int) != (j : Int)) = true := by rw [bne_iff_ne]; omega
  have q2 : ¬ (i : Int) = (j : Int) := by omega
  have q3 : ¬ ((i : Int) > (j : Int)) := by omega
  have q4 : (j : Int) - (i : Int) = ((j - i : Nat) : Int) := by omega
  have hS := lh (fun (w : World) (S1 : SD w0 base g n cap d w) F => swapRange_any F (m - i) (m + j - i) i a b base g n cap d w0 w S1 (by omega) (by omega) (by omega) h4 hn)
  replace q4 := lh q4
  replace e4 := lh e4
  replace e3 := lh e3
  go_wp2_with fail
  rw [e4.out, e3.out]
  refine (hS.out _ S1.out _).mono ?_
  rintro e w1 ⟨rfl, d1, S2, W2, M2⟩
  have R2 := lh (fun k => (show rotF d1 (m - i) m (m + (j - i)) k = rotF d0 a m b k from by
   have := rot_right (d := d) (e := d1) (lo := m - i) (m := m) (hi := m + j) (by rw [show m - (m - i) = i by omega]; exact W2) (by omega) (by omega) k
   rw [show m + j - (m - (m - i)) = m + (j - i) by omega] at this
   rw [this]; exact R1.out k))
  have M3 := lh (M1.out.trans M2)
  replace S2 := lh S2
  go_wp2_with fail
  rw [q4.out]
  go_roundw
  case rel => exact ⟨i, j - i, d1, by omega, by omega, hia, by omega, rfl, rfl, S2, R2, M3⟩
  first | (simp [intOf]; done) | (simp [intOf]; omega)
 ·subst q
  have q1 : ((i : Int) != (i : Int)) = false := by rw [bne_eq_false_iff_eq]
  have hS := lh (fun (w : World) (S1 : SD w0 base g n cap d w) F => swapRange_any F (m - i) m i a b base g n cap d w0 w S1 (by omega) (by omega) (by omega) h4 hn)
  replace e3 := lh e3
  go_wp2_with fail
  rw [e3.out]
  refine (hS.out _ S1.out _).mono ?_
  rintro e w1 ⟨rfl, d1, S2, W2, M2⟩
  have R2 := lh (fun k => (show d1.getD k 0 = rotF d0 a m b k from by
   rw [← R1.out k]
   exact rot_even (d := d) (e := d1) (lo := m - i) (m := m) (hi := m + i) (by rw [show m - (m - i) = i by omega]; exact W2) (by omega) (by omega) (by omega) k))
  have M3 := lh (M1.out.trans M2)
  go_wp2_with fail
  go_end0
  exact ⟨rfl, d1, S2, R2.out, M3.out⟩
 have q1 : ((i : Int) != (j : Int)) = true := by rw [bne_iff_ne]; omega
 have q2 : ¬ (i : Int) = (j : Int) := by omega
 have q3 : ((i : Int) > (j : Int)) := by omega
 have q4 : (i : Int) - (j : Int) = ((i - j : Nat) : Int) := by omega
 have hS := lh (fun (w : World) (S1 : SD w0 base g n cap d w) F => swapRange_any F (m - i) m j a b base g n cap d w0 w S1 (by omega) (by omega) (by omega) h4 hn)
 replace q4 := lh q4
 replace e4 := lh e4
 replace e3 := lh e3
 go_wp2_with fail
 rw [e3.out]
 refine (hS.out _ S1.out _).mono ?_
 rintro e w1 ⟨rfl, d1, S2, W2, M2⟩
 have R2 := lh (fun k => (show rotF d1 (m - (i - j)) m (m + j) k = rotF d0 a m b k from by
  have := rot_left (d := d) (e := d1) (lo := m - i) (m := m) (hi := m + j) (by rw [show m + j - m = j by omega]; exact W2) (by omega) (by omega) k
  rw [show m - i + (m + j - m) = m - (i - j) by omega] at this
  rw [this]; exact R1.out k))
 have M3 := lh (M1.out.trans M2)
 replace S2 := lh S2
 go_wp2_with fail
 rw [q4.out]
 go_roundw
 case rel => exact ⟨i - j, j, d1, by omega, by omega, by omega, hjb, rfl, rfl, S2, R2, M3⟩
 first | (simp [intOf]; done) | (simp [intOf]; omega)
end Go.Proofs.YtkkbngcgphlikaaGreatDoor
end
section
namespace Go.Proofs.YtkkbngcgphlikaaGreatDoor
open Go.RowKit
theorem ret_uu {a b c d : Int} (h : a = b) (h' : c = d) : Ending.returned (.tuple #[.int .u64 a, .int .i64 c]) = .returned (.tuple #[.int .u64 b, .int .i64 d]) := by rw [h, h']
theorem get_stage (x : Int) (w : World) (h0 : 0 ≤ x) (h1 : x < 18446744073709551616) :
 Calls Tryz.prog 165 #[.int .u64 x, .int .i64 0, .int .i64 2] w fun e w' => e = .returned (.int .u64 (x % 4)) ∧ w = w' := by
 refine (get_yes x 0 2 w h0 h1 (by omega) (by omega) (by omega) (by omega)).mono ?_
 rintro e w' ⟨rfl, rfl⟩
 refine ⟨?_, rfl⟩
 obtain ⟨X, rfl⟩ := Int.eq_ofNat_of_zero_le h0
 simp [getI, getN]
theorem get_count (x : Int) (w : World) (h0 : 0 ≤ x) (h1 : x < 18446744073709551616) :
 Calls Tryz.prog 165 #[.int .u64 x, .int .i64 2, .int .i64 14] w fun e w' => e = .returned (.int .u64 (x / 4 % 16384)) ∧ w = w' := by
 refine (get_yes x 2 14 w h0 h1 (by omega) (by omega) (by omega) (by omega)).mono ?_
 rintro e w' ⟨rfl, rfl⟩
 refine ⟨?_, rfl⟩
 obtain ⟨X, rfl⟩ := Int.eq_ofNat_of_zero_le h0
 simp [getI, getN]
theorem get_gen (x : Int) (w : World) (h0 : 0 ≤ x) (h1 : x < 18446744073709551616) :
 Calls Tryz.prog 165 #[.int .u64 x, .int .i64 16, .int .i64 48] w fun e w' => e = .returned (.int .u64 (x / 65536)) ∧ w = w' := by
 refine (get_yes x 16 48 w h0 h1 (by omega) (by omega) (by omega) (by omega)).mono ?_
 rintro e w' ⟨rfl, rfl⟩
 refine ⟨?_, rfl⟩
 obtain ⟨X, rfl⟩ := Int.eq_ofNat_of_zero_le h0
 have e : X / 65536 % 281474976710656 = X / 65536 := Nat.mod_eq_of_lt (by omega)
 simp [getI, getN, e]
theorem put_stage (v : Int) (w : World) (h0 : 0 ≤ v) (h1 : v < 4) :
 Calls Tryz.prog 156 #[.int .u64 0, .int .i64 0, .int .i64 2, .int .u64 v] w fun e w' => e = .returned (.int .u64 v) ∧ w = w' := by
 refine (put_yes 0 0 2 v w (by omega) (by omega) (by omega) (by omega) (by omega) (by omega) h0 (by omega)).mono ?_
 rintro e w' ⟨rfl, rfl⟩
 refine ⟨?_, rfl⟩
 obtain ⟨V, rfl⟩ := Int.eq_ofNat_of_zero_le h0
 have e : V % 4 = V := Nat.mod_eq_of_lt (by omega)
 simp [putI, putN, e]
theorem put_count (x v : Int) (w : World) (hx0 : 0 ≤ x) (hx1 : x < 4) (h0 : 0 ≤ v) (h1 : v < 16384) :
 Calls Tryz.prog 156 #[.int .u64 x, .int .i64 2, .int .i64 14, .int .u64 v] w fun e w' => e = .returned (.int .u64 (x + v * 4)) ∧ w = w' := by
 refine (put_yes x 2 14 v w (by omega) (by omega) (by omega) (by omega) (by omega) (by omega) h0 (by omega)).mono ?_
 rintro e w' ⟨rfl, rfl⟩
 refine ⟨?_, rfl⟩
 obtain ⟨V, rfl⟩ := Int.eq_ofNat_of_zero_le h0
 obtain ⟨X, rfl⟩ := Int.eq_ofNat_of_zero_le hx0
 have e : V % 16384 = V := Nat.mod_eq_of_lt (by omega)
 have e2 : X % 4 = X := Nat.mod_eq_of_lt (by omega)
 have e3 : X / 65536 = 0 := by omega
 simp [putI, putN, e, e2, e3]
theorem put_gen_mk (x v : Int) (w : World) (hx0 : 0 ≤ x) (hx1 : x < 65536) (h0 : 0 ≤ v) (h1 : v < 281474976710656) :
 Calls Tryz.prog 156 #[.int .u64 x, .int .i64 16, .int .i64 48, .int .u64 v] w fun e w' => e = .returned (.int .u64 (x + v * 65536)) ∧ w = w' := by
 refine (put_yes x 16 48 v w (by omega) (by omega) (by omega) (by omega) (by omega) (by omega) h0 (by omega)).mono ?_
 rintro e w' ⟨rfl, rfl⟩
 refine ⟨?_, rfl⟩
 obtain ⟨V, rfl⟩ := Int.eq_ofNat_of_zero_le h0
 obtain ⟨X, rfl⟩ := Int.eq_ofNat_of_zero_le hx0
 have e : V % 281474976710656 = V := Nat.mod_eq_of_lt (by omega)
 have e2 : X % 65536 = X := Nat.mod_eq_of_lt (by omega)
 have e3 : X / 18446744073709551616 = 0 := by omega
 simp [putI, putN, e, e2, e3]
theorem encode_t (s c g : Int) (w : World) (h : okB s c g = true) (hg : 0 ≤ g) :
 Calls Tryz.prog 124 #[.agg #[.int .i64 s, .int .i64 c, .int .u64 g]] w fun e w' => e = .returned (.tuple #[.int .u64 (s + c * 4 + g * 65536), .int .i64 0]) ∧ Below w.heap.size w w' := by
 obtain ⟨h1, h2, h3, h4, h5, h6⟩ := okB_t h
 clear h6
 have H := lh h
 clear h
 go_enter Tryz.func124, Tryz.ntmps124
 go_wp2_with fail
 refine (right_t_mk _ _ _ _ H.out).mono ?_
 rintro e w1 ⟨rfl, hb⟩
 obtain ⟨hc, hf⟩ := bcell hb
 go_wp2_with (first
  | (go_at_call 156; ((with_reducible refine (put_stage s _ (by omega) (by omega)).mono ?_); rintro e w' ⟨rfl, rfl⟩))
  | (go_at_call 156; ((with_reducible refine (put_count s c _ (by omega) (by omega) (by omega) (by omega)).mono ?_); rintro e w' ⟨rfl, rfl⟩))
  | (go_at_call 156; ((with_reducible refine (put_gen_mk (s + c * 4) g _ (by omega) (by omega) (by omega) (by omega)).mono ?_); rintro e w' ⟨rfl, rfl⟩)))
 go_ret2
 exact ⟨rfl, (bZ _ _).trans (hb.mono (by simp))⟩
theorem refEncode_t (s c g : Int) (w : World) (h : okB s c g = true) (hg : 0 ≤ g) :
 Calls Tryz.prog 85 #[.agg #[.int .i64 s, .int .i64 c, .int .u64 g]] w fun e w' => e = .returned (.tuple #[.int .u64 (s + c * 4 + g * 65536), .int .i64 0]) ∧ Below w.heap.size w w' := by
 obtain ⟨h1, h2, h3, h4, h5, h6⟩ := okB_t h
 clear h6
 have H := lh h
 clear h
 go_enter Tryz.func85, Tryz.ntmps85
 go_wp2_with fail
 refine (refRight_t_mk _ _ _ _ H.out).mono ?_
 rintro e w1 ⟨rfl, hb⟩
 obtain ⟨hc, hf⟩ := bcell hb
 go_wp2_with fail
 go_ret2
 exact ⟨ret_uu (by omega) rfl, (bZ _ _).trans (hb.mono (by simp))⟩
theorem refEncode_f (s c g : Int) (w : World) (h : okB s c g = false) :
 Calls Tryz.prog 85 #[.agg #[.int .i64 s, .int .i64 c, .int .u64 g]] w fun e w' => e = .returned (.tuple #[.int .u64 0, .int .i64 1]) ∧ Below w.heap.size w w' := by
 have H := lh h
 clear h
 go_enter Tryz.func85, Tryz.ntmps85
 go_wp2_with fail
 refine (refRight_f_mk _ _ _ _ H.out).mono ?_
 rintro e w1 ⟨rfl, hb⟩
 obtain ⟨hc, hf⟩ := bcell hb
 go_wp2_with fail
 go_ret2
 exact ⟨rfl, (bZ _ _).trans (hb.mono (by simp))⟩
theorem decode_t (x : Int) (w : World) (h0 : 0 ≤ x) (h1 : x < 18446744073709551616) (h : okB (x % 4) (x / 4 % 16384) (x / 65536) = true) :
 Calls Tryz.prog 123 #[.int .u64 x] w fun e w' => e = .returned (.tuple #[.agg #[.int .i64 (x % 4), .int .i64 (x / 4 % 16384), .int .u64 (x / 65536)], .bool true]) ∧ Below w.heap.size w w' := by
 have H := lh h
 clear h
 go_enter Tryz.func123, Tryz.ntmps123
 go_wp2_with (first
  | (go_at_call 165; ((with_reducible refine (get_stage x _ h0 h1).mono ?_); rintro e w' ⟨rfl, rfl⟩))
  | (go_at_call 165; ((with_reducible refine (get_count x _ h0 h1).mono ?_); rintro e w' ⟨rfl, rfl⟩))
  | (go_at_call 165; ((with_reducible refine (get_gen x _ h0 h1).mono ?_); rintro e w' ⟨rfl, rfl⟩))
  | fail)
 refine (right_t_mk _ _ _ _ H.out).mono ?_
 rintro e w1 ⟨rfl, hb⟩
 obtain ⟨hc, hf⟩ := bcell hb
 have hz : w.heap.size + 1 < w1.heap.size := by have := hb.size; simp at this; omega
 have d0 : w1.cell? ⟨w.heap.size, 0, none⟩ = some (.int .i64 0) := by rw [hc _ _ (by simp; omega)]; simp [go_sem]
 have d1 : w1.cell? ⟨w.heap.size, 1, none⟩ = some (.int .i64 0) := by rw [hc _ _ (by simp; omega)]; simp [go_sem]
 have d2 : w1.cell? ⟨w.heap.size, 2, none⟩ = some (.int .u64 0) := by rw [hc _ _ (by simp; omega)]; simp [go_sem]
 have hB : Below w.heap.size w w1 := ((bZ _ _).alloc (by simp) _).trans (hb.mono (by simp; omega))
 go_wp2_with fail
 refine bodyPost_ret (v := .tuple #[.agg #[.int .i64 (x % 4), .int .i64 (x / 4 % 16384), .int .u64 (x / 65536)], .bool true]) (by simp [results, Tryz.results123, go_sem, d0, d1, d2]) rfl ⟨rfl, ?_⟩
 go_grown
theorem decode_f (x : Int) (w : World) (h0 : 0 ≤ x) (h1 : x < 18446744073709551616) (h : okB (x % 4) (x / 4 % 16384) (x / 65536) = false) :
 Calls Tryz.prog 123 #[.int .u64 x] w fun e w' => e = .returned (.tuple #[.agg #[.int .i64 0, .int .i64 0, .int .u64 0], .bool false]) ∧ Below w.heap.size w w' := by
 have H := lh h
 clear h
 go_enter Tryz.func123, Tryz.ntmps123
 go_wp2_with (first
  | (go_at_call 165; ((with_reducible refine (get_stage x _ h0 h1).mono ?_); rintro e w' ⟨rfl, rfl⟩))
  | (go_at_call 165; ((with_reducible refine (get_count x _ h0 h1).mono ?_); rintro e w' ⟨rfl, rfl⟩))
  | (go_at_call 165; ((with_reducible refine (get_gen x _ h0 h1).mono ?_); rintro e w' ⟨rfl, rfl⟩))
  | fail)
 refine (right_f_mk _ _ _ _ H.out).mono ?_
 rintro e w1 ⟨rfl, hb⟩
 obtain ⟨hc, hf⟩ := bcell hb
 have hz : w.heap.size + 1 < w1.heap.size := by have := hb.size; simp at this; omega
 have d0 : w1.cell? ⟨w.heap.size, 0, none⟩ = some (.int .i64 0) := by rw [hc _ _ (by simp; omega)]; simp [go_sem]
 have d1 : w1.cell? ⟨w.heap.size, 1, none⟩ = some (.int .i64 0) := by rw [hc _ _ (by simp; omega)]; simp [go_sem]
 have d2 : w1.cell? ⟨w.heap.size, 2, none⟩ = some (.int .u64 0) := by rw [hc _ _ (by simp; omega)]; simp [go_sem]
 have hB : Below w.heap.size w w1 := ((bZ _ _).alloc (by simp) _).trans (hb.mono (by simp; omega))
 go_wp2_with fail
 refine bodyPost_ret (v := .tuple #[.agg #[.int .i64 0, .int .i64 0, .int .u64 0], .bool false]) (by simp [results, Tryz.results123, go_sem, d0, d1, d2]) rfl ⟨rfl, ?_⟩
 go_grown
def nextG (g : Int) : Int := if g = 281474976710655 then 0 else g + 1
theorem begin_any (s c g : Int) (w : World) (h0 : 0 ≤ g) (h1 : g ≤ 281474976710655) :
 Calls Tryz.prog 105 #[.agg #[.int .i64 s, .int .i64 c, .int .u64 g]] w fun e w' => e = .returned (.agg #[.int .i64 1, .int .i64 0, .int .u64 (nextG g)]) ∧ Below w.heap.size w w' := by
 go_enter Tryz.func105, Tryz.ntmps105
 go_wp2
 go_returns
 refine ⟨?_, by go_grown⟩
 obtain ⟨G, rfl⟩ := Int.eq_ofNat_of_zero_le h0
 have e : ((G : Int) + 1) = ((G + 1 : Nat) : Int) := by omega
 have e2 : bits .and .u64 ((G : Int) + 1) 281474976710655 = nextG G := by
  rw [e, show (281474976710655 : Int) = ((281474976710655 : Nat) : Int) from rfl, u64_and_nat (G + 1) 281474976710655 (by omega) (by omega), nat_mask48]
  unfold nextG
  split <;> omega
 rw [← e2]
end Go.Proofs.YtkkbngcgphlikaaGreatDoor
end
