/-
  The laws of package field: the walks (3).
-/
import Derived.Test.YtcidhnpmmohfjaaDoorFieldL1
import Derived.Test.YtcidhnpmmohfjaaDoorOnes2
set_option linter.unusedVariables false
namespace Go.Proofs.YtcidhnpmmohfjaaDoor
open Go.RowKit

def fI (x n : Nat) : Int := headI (onesL x n)
def oI (x n : Nat) : Int := ((onesL x n).length : Int)
theorem held_nat (n : Nat) (h : n ≤ 64) : heldN (n : Int) = n := by unfold heldN; omega
theorem first_t (x n : Nat) (w : World) (hd : Dw w) (hx : x < 18446744073709551616) (hn : n ≤ 64) : Calls Tryd.prog 20 #[.int .u64 x, .int .i64 n, .bool true] w fun e w' => e = .returned (.int .i64 (fI x n)) ∧ Below w.heap.size w w' := by
  have := first1_any x n w hx hd.1 hd.2
  unfold lowN at this
  rw [held_nat n hn, ones_low x n hn] at this
  exact this
theorem first_f (x n : Nat) (w : World) (hd : Dw w) (hx : x < 18446744073709551616) (hn : n ≤ 64) : Calls Tryd.prog 20 #[.int .u64 x, .int .i64 n, .bool false] w fun e w' => e = .returned (.int .i64 (fI (18446744073709551615 - x) n)) ∧ Below w.heap.size w w' := by
  have := first0_any x n w hx hd.1 hd.2
  unfold lowN at this
  rw [held_nat n hn, ones_low _ n hn] at this
  exact this
theorem ones_t (x n : Nat) (w : World) (hd : Dw w) (hx : x < 18446744073709551616) (hn : n ≤ 64) : Calls Tryd.prog 17 #[.int .u64 x, .int .i64 n] w fun e w' => e = .returned (.int .i64 (oI x n)) ∧ Below w.heap.size w w' := by
  have := ones_any x n w hx hd.1 hd.2
  unfold lowN at this
  rw [held_nat n hn, ones_low _ n hn] at this
  exact this

set_option maxHeartbeats 2000000 in
theorem fieldFirst_a1 (x y n : Nat) (m : Int) (w : World) (hd : Dw w) (m0 : 0 ≤ m) (m1 : m ≤ 255) (hm : m % 65 = (n : Int)) (hy : bits .xor .u64 IntKind.u64.max (x : Int) = (y : Int)) (hn : 1 ≤ n) (F1 : ∀ w, Dw w → Calls Tryd.prog 20 #[.int .u64 x, .int .i64 n, .bool true] w fun e w' => e = .returned (.int .i64 0) ∧ Below w.heap.size w w') (F0 : ∀ w, Dw w → Calls Tryd.prog 20 #[.int .u64 x, .int .i64 n, .bool false] w fun e w' => e = .returned (.int .i64 (-1)) ∧ Below w.heap.size w w') (F2 : ∀ w, Dw w → Calls Tryd.prog 20 #[.int .u64 y, .int .i64 n, .bool true] w fun e w' => e = .returned (.int .i64 (-1)) ∧ Below w.heap.size w w') (O1 : ∀ w, Dw w → Calls Tryd.prog 17 #[.int .u64 x, .int .i64 n] w fun e w' => e = .returned (.int .i64 (n : Int)) ∧ Below w.heap.size w w') (O2 : ∀ w, Dw w → Calls Tryd.prog 17 #[.int .u64 y, .int .i64 n] w fun e w' => e = .returned (.int .i64 0) ∧ Below w.heap.size w w') :
    Calls Tryd.prog 7 #[.int .u64 x, .int .u8 m] w fun e w' => e = .returned (.bool true) ∧ Below w.heap.size w w' := by
  have HF1 := Lib.hid F1
  have HF0 := Lib.hid F0
  have HF2 := Lib.hid F2
  have HO1 := Lib.hid O1
  have HO2 := Lib.hid O2
  clear F1 F0 F2 O1 O2
  go_enter Tryd.func7, Tryd.ntmps7
  go_wp2_with fail
  refine (awake_any _ hd).mono ?_
  rintro e w1 ⟨rfl, B1⟩
  have d1 := hd.keep B1
  have z1 := B1.size
  go_wp2_with fail
  refine (HF1.out _ d1).mono ?_
  rintro e w2 ⟨rfl, hb2⟩
  have d2 := d1.keep hb2
  obtain ⟨B2, z2⟩ := belowStep B1 z1 hb2
  go_wp2_with fail
  refine (HF0.out _ d2).mono ?_
  rintro e w3 ⟨rfl, hb3⟩
  have d3 := d2.keep hb3
  obtain ⟨B3, z3⟩ := belowStep B2 z2 hb3
  go_wp2_with fail
  refine (HO1.out _ d3).mono ?_
  rintro e w4 ⟨rfl, hb4⟩
  have d4 := d3.keep hb4
  obtain ⟨B4, z4⟩ := belowStep B3 z3 hb4
  go_wp2_with fail
  refine (HO2.out _ d4).mono ?_
  rintro e w5 ⟨rfl, hb5⟩
  have d5 := d4.keep hb5
  obtain ⟨B5, z5⟩ := belowStep B4 z4 hb5
  go_wp2_with fail
  refine (HO1.out _ d5).mono ?_
  rintro e w6 ⟨rfl, hb6⟩
  have d6 := d5.keep hb6
  obtain ⟨B6, z6⟩ := belowStep B5 z5 hb6
  go_wp2_with fail
  refine (HO1.out _ d6).mono ?_
  rintro e w7 ⟨rfl, hb7⟩
  have d7 := d6.keep hb7
  obtain ⟨B7, z7⟩ := belowStep B6 z6 hb7
  go_wp2_with fail
  refine (HF2.out _ d7).mono ?_
  rintro e w8 ⟨rfl, hb8⟩
  have d8 := d7.keep hb8
  obtain ⟨B8, z8⟩ := belowStep B7 z7 hb8
  go_wp2_with fail
  go_ret
  exact ⟨ret_b (by first | rfl | (simp; done) | (simp; omega)), B8⟩

set_option maxHeartbeats 2000000 in
theorem fieldFirst_a2 (x y n : Nat) (o o2 : Int) (m : Int) (w : World) (hd : Dw w) (m0 : 0 ≤ m) (m1 : m ≤ 255) (hm : m % 65 = (n : Int)) (hy : bits .xor .u64 IntKind.u64.max (x : Int) = (y : Int)) (k : Nat) (hk : 1 ≤ (k : Int)) (hkn : (k : Int) < n) (hn : 1 ≤ n) (s1 : (n : Int) ≤ o + o2) (s2 : o + o2 ≤ n) (r1 : 1 ≤ o) (r2 : o < n) (F1 : ∀ w, Dw w → Calls Tryd.prog 20 #[.int .u64 x, .int .i64 n, .bool true] w fun e w' => e = .returned (.int .i64 0) ∧ Below w.heap.size w w') (F0 : ∀ w, Dw w → Calls Tryd.prog 20 #[.int .u64 x, .int .i64 n, .bool false] w fun e w' => e = .returned (.int .i64 (k : Int)) ∧ Below w.heap.size w w') (F2 : ∀ w, Dw w → Calls Tryd.prog 20 #[.int .u64 y, .int .i64 n, .bool true] w fun e w' => e = .returned (.int .i64 (k : Int)) ∧ Below w.heap.size w w') (O1 : ∀ w, Dw w → Calls Tryd.prog 17 #[.int .u64 x, .int .i64 n] w fun e w' => e = .returned (.int .i64 o) ∧ Below w.heap.size w w') (O2 : ∀ w, Dw w → Calls Tryd.prog 17 #[.int .u64 y, .int .i64 n] w fun e w' => e = .returned (.int .i64 o2) ∧ Below w.heap.size w w') (OK : ∀ w, Dw w → Calls Tryd.prog 17 #[.int .u64 x, .int .i64 k] w fun e w' => e = .returned (.int .i64 k) ∧ Below w.heap.size w w') :
    Calls Tryd.prog 7 #[.int .u64 x, .int .u8 m] w fun e w' => e = .returned (.bool true) ∧ Below w.heap.size w w' := by
  have HF1 := Lib.hid F1
  have HF0 := Lib.hid F0
  have HF2 := Lib.hid F2
  have HO1 := Lib.hid O1
  have HO2 := Lib.hid O2
  have HOK := Lib.hid OK
  clear F1 F0 F2 O1 O2 OK
  have hkb : ((0 : Int) == (k : Int)) = false := by simp; omega
  have hob : (o + o2 == (n : Int)) = true := by simp; omega
  go_enter Tryd.func7, Tryd.ntmps7
  go_wp2_with fail
  refine (awake_any _ hd).mono ?_
  rintro e w1 ⟨rfl, B1⟩
  have d1 := hd.keep B1
  have z1 := B1.size
  go_wp2_with fail
  refine (HF1.out _ d1).mono ?_
  rintro e w2 ⟨rfl, hb2⟩
  have d2 := d1.keep hb2
  obtain ⟨B2, z2⟩ := belowStep B1 z1 hb2
  go_wp2_with fail
  refine (HF0.out _ d2).mono ?_
  rintro e w3 ⟨rfl, hb3⟩
  have d3 := d2.keep hb3
  obtain ⟨B3, z3⟩ := belowStep B2 z2 hb3
  go_wp2_with fail
  refine (HOK.out _ d3).mono ?_
  rintro e w4 ⟨rfl, hb4⟩
  have d4 := d3.keep hb4
  obtain ⟨B4, z4⟩ := belowStep B3 z3 hb4
  go_wp2_with fail
  refine (HO1.out _ d4).mono ?_
  rintro e w5 ⟨rfl, hb5⟩
  have d5 := d4.keep hb5
  obtain ⟨B5, z5⟩ := belowStep B4 z4 hb5
  go_wp2_with fail
  refine (HO2.out _ d5).mono ?_
  rintro e w6 ⟨rfl, hb6⟩
  have d6 := d5.keep hb6
  obtain ⟨B6, z6⟩ := belowStep B5 z5 hb6
  go_wp2_with fail
  refine (HO1.out _ d6).mono ?_
  rintro e w7 ⟨rfl, hb7⟩
  have d7 := d6.keep hb7
  obtain ⟨B7, z7⟩ := belowStep B6 z6 hb7
  go_wp2_with fail
  refine (HO1.out _ d7).mono ?_
  rintro e w8 ⟨rfl, hb8⟩
  have d8 := d7.keep hb8
  obtain ⟨B8, z8⟩ := belowStep B7 z7 hb8
  go_wp2_with fail
  refine (HF2.out _ d8).mono ?_
  rintro e w9 ⟨rfl, hb9⟩
  have d9 := d8.keep hb9
  obtain ⟨B9, z9⟩ := belowStep B8 z8 hb9
  go_wp2_with fail
  go_ret
  exact ⟨ret_b (by first | rfl | (simp; done) | (simp; omega)), B9⟩
  all_goals
    rename_i h
    have e1 : decide ((k : Int) < 0) = false := decide_eq_false (by omega)
    have e2 : (o == (n : Int)) = false := beq_eq_false_iff_ne.2 (by omega)
    rw [e1, e2] at h
    exact absurd rfl h

set_option maxHeartbeats 2000000 in
theorem fieldFirst_b1 (x y n : Nat) (m : Int) (w : World) (hd : Dw w) (m0 : 0 ≤ m) (m1 : m ≤ 255) (hm : m % 65 = (n : Int)) (hy : bits .xor .u64 IntKind.u64.max (x : Int) = (y : Int)) (hn : 1 ≤ n) (F1 : ∀ w, Dw w → Calls Tryd.prog 20 #[.int .u64 x, .int .i64 n, .bool true] w fun e w' => e = .returned (.int .i64 (-1)) ∧ Below w.heap.size w w') (F0 : ∀ w, Dw w → Calls Tryd.prog 20 #[.int .u64 x, .int .i64 n, .bool false] w fun e w' => e = .returned (.int .i64 0) ∧ Below w.heap.size w w') (F2 : ∀ w, Dw w → Calls Tryd.prog 20 #[.int .u64 y, .int .i64 n, .bool true] w fun e w' => e = .returned (.int .i64 0) ∧ Below w.heap.size w w') (O1 : ∀ w, Dw w → Calls Tryd.prog 17 #[.int .u64 x, .int .i64 n] w fun e w' => e = .returned (.int .i64 0) ∧ Below w.heap.size w w') (O2 : ∀ w, Dw w → Calls Tryd.prog 17 #[.int .u64 y, .int .i64 n] w fun e w' => e = .returned (.int .i64 (n : Int)) ∧ Below w.heap.size w w') :
    Calls Tryd.prog 7 #[.int .u64 x, .int .u8 m] w fun e w' => e = .returned (.bool true) ∧ Below w.heap.size w w' := by
  have HF1 := Lib.hid F1
  have HF0 := Lib.hid F0
  have HF2 := Lib.hid F2
  have HO1 := Lib.hid O1
  have HO2 := Lib.hid O2
  clear F1 F0 F2 O1 O2
  go_enter Tryd.func7, Tryd.ntmps7
  go_wp2_with fail
  refine (awake_any _ hd).mono ?_
  rintro e w1 ⟨rfl, B1⟩
  have d1 := hd.keep B1
  have z1 := B1.size
  go_wp2_with fail
  refine (HF1.out _ d1).mono ?_
  rintro e w2 ⟨rfl, hb2⟩
  have d2 := d1.keep hb2
  obtain ⟨B2, z2⟩ := belowStep B1 z1 hb2
  go_wp2_with fail
  refine (HF0.out _ d2).mono ?_
  rintro e w3 ⟨rfl, hb3⟩
  have d3 := d2.keep hb3
  obtain ⟨B3, z3⟩ := belowStep B2 z2 hb3
  go_wp2_with fail
  refine (HO1.out _ d3).mono ?_
  rintro e w4 ⟨rfl, hb4⟩
  have d4 := d3.keep hb4
  obtain ⟨B4, z4⟩ := belowStep B3 z3 hb4
  go_wp2_with fail
  refine (HO2.out _ d4).mono ?_
  rintro e w5 ⟨rfl, hb5⟩
  have d5 := d4.keep hb5
  obtain ⟨B5, z5⟩ := belowStep B4 z4 hb5
  go_wp2_with fail
  refine (HO1.out _ d5).mono ?_
  rintro e w6 ⟨rfl, hb6⟩
  have d6 := d5.keep hb6
  obtain ⟨B6, z6⟩ := belowStep B5 z5 hb6
  go_wp2_with fail
  refine (HO1.out _ d6).mono ?_
  rintro e w7 ⟨rfl, hb7⟩
  have d7 := d6.keep hb7
  obtain ⟨B7, z7⟩ := belowStep B6 z6 hb7
  go_wp2_with fail
  refine (HF2.out _ d7).mono ?_
  rintro e w8 ⟨rfl, hb8⟩
  have d8 := d7.keep hb8
  obtain ⟨B8, z8⟩ := belowStep B7 z7 hb8
  go_wp2_with fail
  go_ret
  exact ⟨ret_b (by first | rfl | (simp; done) | (simp; omega)), B8⟩

set_option maxHeartbeats 2000000 in
theorem fieldFirst_b2 (x y n : Nat) (o o2 : Int) (m : Int) (w : World) (hd : Dw w) (m0 : 0 ≤ m) (m1 : m ≤ 255) (hm : m % 65 = (n : Int)) (hy : bits .xor .u64 IntKind.u64.max (x : Int) = (y : Int)) (k : Nat) (hk : 1 ≤ (k : Int)) (hkn : (k : Int) < n) (hn : 1 ≤ n) (s1 : (n : Int) ≤ o + o2) (s2 : o + o2 ≤ n) (r1 : 1 ≤ o) (r2 : o < n) (F1 : ∀ w, Dw w → Calls Tryd.prog 20 #[.int .u64 x, .int .i64 n, .bool true] w fun e w' => e = .returned (.int .i64 (k : Int)) ∧ Below w.heap.size w w') (F0 : ∀ w, Dw w → Calls Tryd.prog 20 #[.int .u64 x, .int .i64 n, .bool false] w fun e w' => e = .returned (.int .i64 0) ∧ Below w.heap.size w w') (F2 : ∀ w, Dw w → Calls Tryd.prog 20 #[.int .u64 y, .int .i64 n, .bool true] w fun e w' => e = .returned (.int .i64 0) ∧ Below w.heap.size w w') (O1 : ∀ w, Dw w → Calls Tryd.prog 17 #[.int .u64 x, .int .i64 n] w fun e w' => e = .returned (.int .i64 o) ∧ Below w.heap.size w w') (O2 : ∀ w, Dw w → Calls Tryd.prog 17 #[.int .u64 y, .int .i64 n] w fun e w' => e = .returned (.int .i64 o2) ∧ Below w.heap.size w w') (OK : ∀ w, Dw w → Calls Tryd.prog 17 #[.int .u64 x, .int .i64 k] w fun e w' => e = .returned (.int .i64 0) ∧ Below w.heap.size w w') :
    Calls Tryd.prog 7 #[.int .u64 x, .int .u8 m] w fun e w' => e = .returned (.bool true) ∧ Below w.heap.size w w' := by
  have HF1 := Lib.hid F1
  have HF0 := Lib.hid F0
  have HF2 := Lib.hid F2
  have HO1 := Lib.hid O1
  have HO2 := Lib.hid O2
  have HOK := Lib.hid OK
  clear F1 F0 F2 O1 O2 OK
  have hkb : ((k : Int) == 0) = false := by simp; omega
  have hob : (o + o2 == (n : Int)) = true := by simp; omega
  go_enter Tryd.func7, Tryd.ntmps7
  go_wp2_with fail
  refine (awake_any _ hd).mono ?_
  rintro e w1 ⟨rfl, B1⟩
  have d1 := hd.keep B1
  have z1 := B1.size
  go_wp2_with fail
  refine (HF1.out _ d1).mono ?_
  rintro e w2 ⟨rfl, hb2⟩
  have d2 := d1.keep hb2
  obtain ⟨B2, z2⟩ := belowStep B1 z1 hb2
  go_wp2_with fail
  refine (HF0.out _ d2).mono ?_
  rintro e w3 ⟨rfl, hb3⟩
  have d3 := d2.keep hb3
  obtain ⟨B3, z3⟩ := belowStep B2 z2 hb3
  go_wp2_with fail
  refine (HOK.out _ d3).mono ?_
  rintro e w4 ⟨rfl, hb4⟩
  have d4 := d3.keep hb4
  obtain ⟨B4, z4⟩ := belowStep B3 z3 hb4
  go_wp2_with fail
  refine (HO1.out _ d4).mono ?_
  rintro e w5 ⟨rfl, hb5⟩
  have d5 := d4.keep hb5
  obtain ⟨B5, z5⟩ := belowStep B4 z4 hb5
  go_wp2_with fail
  refine (HO2.out _ d5).mono ?_
  rintro e w6 ⟨rfl, hb6⟩
  have d6 := d5.keep hb6
  obtain ⟨B6, z6⟩ := belowStep B5 z5 hb6
  go_wp2_with fail
  refine (HO1.out _ d6).mono ?_
  rintro e w7 ⟨rfl, hb7⟩
  have d7 := d6.keep hb7
  obtain ⟨B7, z7⟩ := belowStep B6 z6 hb7
  go_wp2_with fail
  refine (HO1.out _ d7).mono ?_
  rintro e w8 ⟨rfl, hb8⟩
  have d8 := d7.keep hb8
  obtain ⟨B8, z8⟩ := belowStep B7 z7 hb8
  go_wp2_with fail
  refine (HF2.out _ d8).mono ?_
  rintro e w9 ⟨rfl, hb9⟩
  have d9 := d8.keep hb9
  obtain ⟨B9, z9⟩ := belowStep B8 z8 hb9
  go_wp2_with fail
  go_ret
  exact ⟨ret_b (by first | rfl | (simp; done) | (simp; omega)), B9⟩
  all_goals
    rename_i h
    have e1 : decide ((k : Int) < 0) = false := decide_eq_false (by omega)
    have e2 : (o == 0) = false := beq_eq_false_iff_ne.2 (by omega)
    rw [e1, e2] at h
    exact absurd rfl h

set_option maxHeartbeats 2000000 in
theorem fieldFirst_c (x y n : Nat) (m : Int) (w : World) (hd : Dw w) (m0 : 0 ≤ m) (m1 : m ≤ 255) (hm : m % 65 = (n : Int)) (hy : bits .xor .u64 IntKind.u64.max (x : Int) = (y : Int)) (hn : n = 0) (F1 : ∀ w, Dw w → Calls Tryd.prog 20 #[.int .u64 x, .int .i64 n, .bool true] w fun e w' => e = .returned (.int .i64 (-1)) ∧ Below w.heap.size w w') (F0 : ∀ w, Dw w → Calls Tryd.prog 20 #[.int .u64 x, .int .i64 n, .bool false] w fun e w' => e = .returned (.int .i64 (-1)) ∧ Below w.heap.size w w') (F2 : ∀ w, Dw w → Calls Tryd.prog 20 #[.int .u64 y, .int .i64 n, .bool true] w fun e w' => e = .returned (.int .i64 (-1)) ∧ Below w.heap.size w w') (O1 : ∀ w, Dw w → Calls Tryd.prog 17 #[.int .u64 x, .int .i64 n] w fun e w' => e = .returned (.int .i64 0) ∧ Below w.heap.size w w') (O2 : ∀ w, Dw w → Calls Tryd.prog 17 #[.int .u64 y, .int .i64 n] w fun e w' => e = .returned (.int .i64 0) ∧ Below w.heap.size w w') :
    Calls Tryd.prog 7 #[.int .u64 x, .int .u8 m] w fun e w' => e = .returned (.bool true) ∧ Below w.heap.size w w' := by
  have HF1 := Lib.hid F1
  have HF0 := Lib.hid F0
  have HF2 := Lib.hid F2
  have HO1 := Lib.hid O1
  have HO2 := Lib.hid O2
  clear F1 F0 F2 O1 O2
  subst hn
  go_enter Tryd.func7, Tryd.ntmps7
  go_wp2_with fail
  refine (awake_any _ hd).mono ?_
  rintro e w1 ⟨rfl, B1⟩
  have d1 := hd.keep B1
  have z1 := B1.size
  go_wp2_with fail
  refine (HF1.out _ d1).mono ?_
  rintro e w2 ⟨rfl, hb2⟩
  have d2 := d1.keep hb2
  obtain ⟨B2, z2⟩ := belowStep B1 z1 hb2
  go_wp2_with fail
  refine (HF0.out _ d2).mono ?_
  rintro e w3 ⟨rfl, hb3⟩
  have d3 := d2.keep hb3
  obtain ⟨B3, z3⟩ := belowStep B2 z2 hb3
  go_wp2_with fail
  refine (HO1.out _ d3).mono ?_
  rintro e w4 ⟨rfl, hb4⟩
  have d4 := d3.keep hb4
  obtain ⟨B4, z4⟩ := belowStep B3 z3 hb4
  go_wp2_with fail
  refine (HO2.out _ d4).mono ?_
  rintro e w5 ⟨rfl, hb5⟩
  have d5 := d4.keep hb5
  obtain ⟨B5, z5⟩ := belowStep B4 z4 hb5
  go_wp2_with fail
  refine (HO1.out _ d5).mono ?_
  rintro e w6 ⟨rfl, hb6⟩
  have d6 := d5.keep hb6
  obtain ⟨B6, z6⟩ := belowStep B5 z5 hb6
  go_wp2_with fail
  refine (HO1.out _ d6).mono ?_
  rintro e w7 ⟨rfl, hb7⟩
  have d7 := d6.keep hb7
  obtain ⟨B7, z7⟩ := belowStep B6 z6 hb7
  go_wp2_with fail
  refine (HF2.out _ d7).mono ?_
  rintro e w8 ⟨rfl, hb8⟩
  have d8 := d7.keep hb8
  obtain ⟨B8, z8⟩ := belowStep B7 z7 hb8
  go_wp2_with fail
  go_ret
  exact ⟨ret_b (by first | rfl | (simp; done) | (simp; omega)), B8⟩

theorem fieldFirst (x : Nat) (m : Int) (w : World) (hd : Dw w) (hx : x < 18446744073709551616) (m0 : 0 ≤ m) (m1 : m ≤ 255) :
    Calls Tryd.prog 7 #[.int .u64 x, .int .u8 m] w fun e w' => e = .returned (.bool true) ∧ Below w.heap.size w w' := by
  obtain ⟨n, hm⟩ := Int.eq_ofNat_of_zero_le (show 0 ≤ m % 65 by omega)
  have hn : n ≤ 64 := by omega
  have hy := not_walk x hx
  have F1 := fun w hd => first_t x n w hd hx hn
  have F0 := fun w hd => first_f x n w hd hx hn
  have F2 := fun w hd => first_t (18446744073709551615 - x) n w hd (by omega) hn
  have O1 := fun w hd => ones_t x n w hd hx hn
  have O2 := fun w hd => ones_t (18446744073709551615 - x) n w hd (by omega) hn
  have OK := fun (k : Nat) (hk : k ≤ 64) w hd => ones_t x k w hd hx hk
  have hs := len_sum x (18446744073709551615 - x) n (fun i hi => opp_testBit x i hx (by omega))
  have hop : ∀ i, i < n → (18446744073709551615 - x).testBit i = !x.testBit i := fun i hi => opp_testBit x i hx (by omega)
  have s1 := first_spec x n
  have s2 := first_spec (18446744073709551615 - x) n
  generalize 18446744073709551615 - x = y at *
  rcases Nat.eq_zero_or_pos n with h0 | h0
  · subst h0
    have e1 : fI x 0 = -1 := rfl
    have e2 : fI y 0 = -1 := rfl
    have e3 : oI x 0 = 0 := rfl
    have e4 : oI y 0 = 0 := rfl
    rw [e1] at F1; rw [e2] at F0 F2; rw [e3] at O1; rw [e4] at O2
    exact fieldFirst_c x y 0 m w hd m0 m1 hm hy rfl F1 F0 F2 O1 O2
  · rcases s1 with ⟨l1, b1⟩ | ⟨t1, r1, l1, q1, p1, b1⟩
    · -- no one: the first 0 is at 0
      have e1 : fI x n = -1 := by unfold fI; rw [l1]; rfl
      have e3 : oI x n = 0 := by unfold oI; rw [l1]; rfl
      have e4 : oI y n = n := by unfold oI; rw [l1] at hs; simp at hs; omega
      rcases s2 with ⟨l2, b2⟩ | ⟨t2, r2, l2, q2, p2, b2⟩
      · rw [l1, l2] at hs; simp at hs; omega
      · have ht : t2 = 0 := by
          rcases Nat.eq_zero_or_pos t2 with h | h
          · exact h
          · have := b2 0 h; rw [hop 0 h0, b1 0 h0] at this; simp at this
        subst ht
        have e2 : fI y n = 0 := by unfold fI; rw [l2]; rfl
        rw [e1] at F1; rw [e2] at F0 F2; rw [e3] at O1; rw [e4] at O2
        exact fieldFirst_b1 x y n m w hd m0 m1 hm hy h0 F1 F0 F2 O1 O2
    · have e1 : fI x n = t1 := by unfold fI; rw [l1]; rfl
      have o1 : 1 ≤ oI x n := by unfold oI; rw [l1]; simp; omega
      rcases Nat.eq_zero_or_pos t1 with ht | ht
      · subst ht
        rcases s2 with ⟨l2, b2⟩ | ⟨t2, r2, l2, q2, p2, b2⟩
        · have e2 : fI y n = -1 := by unfold fI; rw [l2]; rfl
          have e4 : oI y n = 0 := by unfold oI; rw [l2]; rfl
          have e3 : oI x n = n := by unfold oI; rw [l2] at hs; simp at hs; omega
          rw [e1] at F1; rw [e2] at F0 F2; rw [e3] at O1; rw [e4] at O2
          exact fieldFirst_a1 x y n m w hd m0 m1 hm hy h0 F1 F0 F2 O1 O2
        · have e2 : fI y n = t2 := by unfold fI; rw [l2]; rfl
          have t2p : 1 ≤ t2 := by
            rcases Nat.eq_zero_or_pos t2 with h | h
            · rw [h, hop 0 h0, p1] at p2; simp at p2
            · exact h
          have o2 : 1 ≤ oI y n := by unfold oI; rw [l2]; simp; omega
          have hsi : oI x n + oI y n = n := by unfold oI; omega
          have e5 : oI x t2 = t2 := by
            unfold oI
            rw [len_all x t2 (fun i hi => by have := b2 i hi; rw [hop i (by omega)] at this; simpa using this)]
          have OK2 := OK t2 (by omega)
          rw [e5] at OK2
          rw [e1] at F1; rw [e2] at F0 F2
          exact fieldFirst_a2 x y n (oI x n) (oI y n) m w hd m0 m1 hm hy t2 (by omega) (by omega) (by omega) (by omega) (by omega) o1 (by omega) F1 F0 F2 O1 O2 OK2
      · rcases s2 with ⟨l2, b2⟩ | ⟨t2, r2, l2, q2, p2, b2⟩
        · have := b2 0 h0; rw [hop 0 h0, b1 0 ht] at this; simp at this
        · have ht2 : t2 = 0 := by
            rcases Nat.eq_zero_or_pos t2 with h | h
            · exact h
            · have := b2 0 h; rw [hop 0 h0, b1 0 ht] at this; simp at this
          subst ht2
          have e2 : fI y n = 0 := by unfold fI; rw [l2]; rfl
          have o2 : 1 ≤ oI y n := by unfold oI; rw [l2]; simp; omega
          have hsi : oI x n + oI y n = n := by unfold oI; omega
          have e5 : oI x t1 = 0 := by unfold oI; rw [len_none x t1 b1]; rfl
          have OK2 := OK t1 (by omega)
          rw [e5] at OK2
          rw [e1] at F1; rw [e2] at F0 F2
          exact fieldFirst_b2 x y n (oI x n) (oI y n) m w hd m0 m1 hm hy t1 (by omega) (by omega) (by omega) (by omega) (by omega) o1 (by omega) F1 F0 F2 O1 O2 OK2

end Go.Proofs.YtcidhnpmmohfjaaDoor
