/-
  The laws of package mark: the walks (3).
-/
import Derived.Test.YtcidhnpmmohfjaaMark4
namespace Go.Proofs.Ytcidhnpmmohfjaa
open Go.RowKit

theorem decode_enc (s c g : Int) (w : World) (hg : 0 ≤ g) (h : okB s c g = true) :
    Calls Try.prog 14 #[.int .u64 (s + c * 4 + g * 65536)] w fun e w' => e = .returned (.tuple #[.agg #[.int .i64 s, .int .i64 c, .int .u64 g], .bool true]) ∧ Below w.heap.size w w' := by
  obtain ⟨h1, h2, h3, h4, h5, _⟩ := okB_t h
  have e1 : (s + c * 4 + g * 65536) % 4 = s := by omega
  have e2 : (s + c * 4 + g * 65536) / 4 % 16384 = c := by omega
  have e3 : (s + c * 4 + g * 65536) / 65536 = g := by omega
  have := decode_t (s + c * 4 + g * 65536) w (by omega) (by omega) (by rw [e1, e2, e3]; exact h)
  rw [e1, e2, e3] at this
  exact this
theorem encode_dec (x : Int) (w : World) (h0 : 0 ≤ x) (h : okB (x % 4) (x / 4 % 16384) (x / 65536) = true) :
    Calls Try.prog 10 #[.agg #[.int .i64 (x % 4), .int .i64 (x / 4 % 16384), .int .u64 (x / 65536)]] w fun e w' => e = .returned (.tuple #[.int .u64 x, .int .i64 0]) ∧ Below w.heap.size w w' := by
  have := encode_t (x % 4) (x / 4 % 16384) (x / 65536) w h (by omega)
  rw [show x % 4 + x / 4 % 16384 * 4 + x / 65536 * 65536 = x from by omega] at this
  exact this
theorem encode_zero (w : World) :
    Calls Try.prog 10 #[.agg #[.int .i64 0, .int .i64 0, .int .u64 0]] w fun e w' => e = .returned (.tuple #[.int .u64 0, .int .i64 0]) ∧ Below w.heap.size w w' :=
  (encode_t 0 0 0 w (by decide) (by omega)).mono fun _ _ h => h

set_option maxHeartbeats 1000000 in
theorem markBack_tt (s c g x : Int) (w : World) (hg : 0 ≤ g) (h0 : 0 ≤ x) (h1 : x < 18446744073709551616) (h : okB s c g = true) (k : okB (x % 4) (x / 4 % 16384) (x / 65536) = true) :
    Calls Try.prog 6 #[.agg #[.int .i64 s, .int .i64 c, .int .u64 g], .int .u64 x] w fun e w' => e = .returned (.bool true) ∧ Below w.heap.size w w' := by
  have H := Lib.hid h
  have K := Lib.hid k
  clear h k
  go_enter Try.func6, Try.ntmps6
  go_wp2_with fail
  refine (awake_any _).mono ?_
  rintro e w1 ⟨rfl, hb1⟩
  have k1 := (C3.new w (.int .i64 s) (.int .i64 c) (.int .u64 g) 24).keep hb1
  have hB1 : Below w.heap.size w w1 := ((Below.refl _ _).alloc (Nat.le_refl _) _).trans (hb1.mono (by simp))
  obtain ⟨c0, c1, c2⟩ := id k1
  go_wp2_with fail
  refine (encode_t s c g _ H.out hg).mono ?_
  rintro e w2 ⟨rfl, hb2⟩
  obtain ⟨hB2, hz2⟩ := belowStep hB1 (Nat.le_of_lt k1.lt) hb2
  have k2 := k1.keep hb2
  obtain ⟨d0, d1, d2⟩ := id k2
  have lt2 := k2.lt
  clear c0 c1 c2
  go_wp2_with fail
  refine (decode_enc s c g _ hg H.out).mono ?_
  rintro e w3 ⟨rfl, hb3⟩
  obtain ⟨hB3, hz3⟩ := belowStep hB2 hz2 hb3
  have k3 := k2.keep hb3
  have lt3 := k3.lt
  obtain ⟨c0, c1, c2⟩ := id k3
  clear d0 d1 d2
  go_wp2_with fail
  refine (decode_t x _ h0 h1 K.out).mono ?_
  rintro e w4 ⟨rfl, hb4⟩
  obtain ⟨hB4, hz4⟩ := belowStep (hB3.alloc hz3 (.cells #[.int .i64 s, .int .i64 c, .int .u64 g] 24)) (by simp; omega) hb4
  go_wp2_with fail
  refine (encode_dec x _ h0 K.out).mono ?_
  rintro e w5 ⟨rfl, hb5⟩
  obtain ⟨hB5, hz5⟩ := belowStep (hB4.alloc hz4 (.cells #[.int .i64 (x % 4), .int .i64 (x / 4 % 16384), .int .u64 (x / 65536)] 24)) (by simp; omega) hb5
  have k5 := (C3.new w4 (.int .i64 (x % 4)) (.int .i64 (x / 4 % 16384)) (.int .u64 (x / 65536)) 24).keep hb5
  obtain ⟨e0, e1, e2⟩ := id k5
  go_wp2_with fail
  go_ret
  exact ⟨rfl, by first | assumption | go_grown⟩

set_option maxHeartbeats 1000000 in
theorem markBack_tf (s c g x : Int) (w : World) (hg : 0 ≤ g) (h0 : 0 ≤ x) (h1 : x < 18446744073709551616) (h : okB s c g = true) (k : okB (x % 4) (x / 4 % 16384) (x / 65536) = false) :
    Calls Try.prog 6 #[.agg #[.int .i64 s, .int .i64 c, .int .u64 g], .int .u64 x] w fun e w' => e = .returned (.bool true) ∧ Below w.heap.size w w' := by
  have H := Lib.hid h
  have K := Lib.hid k
  clear h k
  go_enter Try.func6, Try.ntmps6
  go_wp2_with fail
  refine (awake_any _).mono ?_
  rintro e w1 ⟨rfl, hb1⟩
  have k1 := (C3.new w (.int .i64 s) (.int .i64 c) (.int .u64 g) 24).keep hb1
  have hB1 : Below w.heap.size w w1 := ((Below.refl _ _).alloc (Nat.le_refl _) _).trans (hb1.mono (by simp))
  obtain ⟨c0, c1, c2⟩ := id k1
  go_wp2_with fail
  refine (encode_t s c g _ H.out hg).mono ?_
  rintro e w2 ⟨rfl, hb2⟩
  obtain ⟨hB2, hz2⟩ := belowStep hB1 (Nat.le_of_lt k1.lt) hb2
  have k2 := k1.keep hb2
  obtain ⟨d0, d1, d2⟩ := id k2
  have lt2 := k2.lt
  clear c0 c1 c2
  go_wp2_with fail
  refine (decode_enc s c g _ hg H.out).mono ?_
  rintro e w3 ⟨rfl, hb3⟩
  obtain ⟨hB3, hz3⟩ := belowStep hB2 hz2 hb3
  have k3 := k2.keep hb3
  have lt3 := k3.lt
  obtain ⟨c0, c1, c2⟩ := id k3
  clear d0 d1 d2
  go_wp2_with fail
  refine (decode_f x _ h0 h1 K.out).mono ?_
  rintro e w4 ⟨rfl, hb4⟩
  obtain ⟨hB4, hz4⟩ := belowStep (hB3.alloc hz3 (.cells #[.int .i64 s, .int .i64 c, .int .u64 g] 24)) (by simp; omega) hb4
  go_wp2_with fail
  refine (encode_zero _).mono ?_
  rintro e w5 ⟨rfl, hb5⟩
  obtain ⟨hB5, hz5⟩ := belowStep (hB4.alloc hz4 (.cells #[.int .i64 0, .int .i64 0, .int .u64 0] 24)) (by simp; omega) hb5
  have k5 := (C3.new w4 (.int .i64 0) (.int .i64 0) (.int .u64 0) 24).keep hb5
  obtain ⟨e0, e1, e2⟩ := id k5
  go_wp2_with fail
  go_ret
  exact ⟨rfl, by first | assumption | go_grown⟩

set_option maxHeartbeats 1000000 in
theorem markBack_ft (s c g x : Int) (w : World) (_hg : 0 ≤ g) (h0 : 0 ≤ x) (h1 : x < 18446744073709551616) (h : okB s c g = false) (k : okB (x % 4) (x / 4 % 16384) (x / 65536) = true) :
    Calls Try.prog 6 #[.agg #[.int .i64 s, .int .i64 c, .int .u64 g], .int .u64 x] w fun e w' => e = .returned (.bool true) ∧ Below w.heap.size w w' := by
  have H := Lib.hid h
  have K := Lib.hid k
  clear h k
  go_enter Try.func6, Try.ntmps6
  go_wp2_with fail
  refine (awake_any _).mono ?_
  rintro e w1 ⟨rfl, hb1⟩
  have k1 := (C3.new w (.int .i64 s) (.int .i64 c) (.int .u64 g) 24).keep hb1
  have hB1 : Below w.heap.size w w1 := ((Below.refl _ _).alloc (Nat.le_refl _) _).trans (hb1.mono (by simp))
  obtain ⟨c0, c1, c2⟩ := id k1
  go_wp2_with fail
  refine (encode_f s c g _ H.out).mono ?_
  rintro e w2 ⟨rfl, hb2⟩
  obtain ⟨hB2, hz2⟩ := belowStep hB1 (Nat.le_of_lt k1.lt) hb2
  have k2 := k1.keep hb2
  obtain ⟨d0, d1, d2⟩ := id k2
  have lt2 := k2.lt
  clear c0 c1 c2
  go_wp2_with fail
  refine (decode_t x _ h0 h1 K.out).mono ?_
  rintro e w4 ⟨rfl, hb4⟩
  obtain ⟨hB4, hz4⟩ := belowStep hB2 hz2 hb4
  go_wp2_with fail
  refine (encode_dec x _ h0 K.out).mono ?_
  rintro e w5 ⟨rfl, hb5⟩
  obtain ⟨hB5, hz5⟩ := belowStep (hB4.alloc hz4 (.cells #[.int .i64 (x % 4), .int .i64 (x / 4 % 16384), .int .u64 (x / 65536)] 24)) (by simp; omega) hb5
  have k5 := (C3.new w4 (.int .i64 (x % 4)) (.int .i64 (x / 4 % 16384)) (.int .u64 (x / 65536)) 24).keep hb5
  obtain ⟨e0, e1, e2⟩ := id k5
  go_wp2_with fail
  go_ret
  exact ⟨rfl, by first | assumption | go_grown⟩

set_option maxHeartbeats 1000000 in
theorem markBack_ff (s c g x : Int) (w : World) (_hg : 0 ≤ g) (h0 : 0 ≤ x) (h1 : x < 18446744073709551616) (h : okB s c g = false) (k : okB (x % 4) (x / 4 % 16384) (x / 65536) = false) :
    Calls Try.prog 6 #[.agg #[.int .i64 s, .int .i64 c, .int .u64 g], .int .u64 x] w fun e w' => e = .returned (.bool true) ∧ Below w.heap.size w w' := by
  have H := Lib.hid h
  have K := Lib.hid k
  clear h k
  go_enter Try.func6, Try.ntmps6
  go_wp2_with fail
  refine (awake_any _).mono ?_
  rintro e w1 ⟨rfl, hb1⟩
  have k1 := (C3.new w (.int .i64 s) (.int .i64 c) (.int .u64 g) 24).keep hb1
  have hB1 : Below w.heap.size w w1 := ((Below.refl _ _).alloc (Nat.le_refl _) _).trans (hb1.mono (by simp))
  obtain ⟨c0, c1, c2⟩ := id k1
  go_wp2_with fail
  refine (encode_f s c g _ H.out).mono ?_
  rintro e w2 ⟨rfl, hb2⟩
  obtain ⟨hB2, hz2⟩ := belowStep hB1 (Nat.le_of_lt k1.lt) hb2
  have k2 := k1.keep hb2
  obtain ⟨d0, d1, d2⟩ := id k2
  have lt2 := k2.lt
  clear c0 c1 c2
  go_wp2_with fail
  refine (decode_f x _ h0 h1 K.out).mono ?_
  rintro e w4 ⟨rfl, hb4⟩
  obtain ⟨hB4, hz4⟩ := belowStep hB2 hz2 hb4
  go_wp2_with fail
  refine (encode_zero _).mono ?_
  rintro e w5 ⟨rfl, hb5⟩
  obtain ⟨hB5, hz5⟩ := belowStep (hB4.alloc hz4 (.cells #[.int .i64 0, .int .i64 0, .int .u64 0] 24)) (by simp; omega) hb5
  have k5 := (C3.new w4 (.int .i64 0) (.int .i64 0) (.int .u64 0) 24).keep hb5
  obtain ⟨e0, e1, e2⟩ := id k5
  go_wp2_with fail
  go_ret
  exact ⟨rfl, by first | assumption | go_grown⟩

end Go.Proofs.Ytcidhnpmmohfjaa
