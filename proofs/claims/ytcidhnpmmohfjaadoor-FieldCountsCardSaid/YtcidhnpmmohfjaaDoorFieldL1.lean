/-
  The laws of package field: the walks (1).
-/
import Derived.Test.YtcidhnpmmohfjaaDoorFieldC
import Derived.Test.YtcidhnpmmohfjaaDoorBits2
set_option linter.unusedVariables false
namespace Go.Proofs.YtcidhnpmmohfjaaDoor
open Go.RowKit

def Dw (w : World) : Prop := Deb w ∧ 0 < w.heap.size
theorem Dw.keep {w w1 : World} (h : Dw w) (hb : Below w.heap.size w w1) : Dw w1 := ⟨h.1.keep hb h.2, Nat.lt_of_lt_of_le h.2 hb.size⟩

theorem get_ex (w : World) : Calls Tryd.prog 12 #[.int .u64 65280, .int .i64 4, .int .i64 8] w fun e w' => e = .returned (.int .u64 240) ∧ w = w' :=
  (get_yes 65280 4 8 w (by omega) (by omega) (by omega) (by omega) (by omega) (by omega)).mono fun _ _ h => h
theorem put_ex (w : World) : Calls Tryd.prog 14 #[.int .u64 0, .int .i64 4, .int .i64 4, .int .u64 5] w fun e w' => e = .returned (.int .u64 80) ∧ w = w' :=
  (put_yes 0 4 4 5 w (by omega) (by omega) (by omega) (by omega) (by omega) (by omega) (by omega) (by omega)).mono fun _ _ h => h
theorem first_ex (w : World) (hd : Dw w) : Calls Tryd.prog 20 #[.int .u64 7, .int .i64 4, .bool false] w fun e w' => e = .returned (.int .i64 3) ∧ Below w.heap.size w w' := by
  have := first0_any 7 4 w (by decide) hd.1 hd.2
  rwa [show headI (onesL (lowN (18446744073709551615 - 7) 4) 64) = 3 by decide +kernel] at this
theorem ones_ex (w : World) (hd : Dw w) : Calls Tryd.prog 17 #[.int .u64 7, .int .i64 2] w fun e w' => e = .returned (.int .i64 2) ∧ Below w.heap.size w w' := by
  have := ones_any 7 2 w (by decide) hd.1 hd.2
  rwa [show ((onesL (lowN 7 2) 64).length : Int) = 2 by decide +kernel] at this
theorem places_ex (w : World) (hd : Dw w) : Calls Tryd.prog 19 #[.int .u64 5, .int .i64 3] w fun e w' => ∃ g cap, e = .returned (.slice (some ⟨g, 0, none⟩) 2 cap) ∧ Below w.heap.size w w' := by
  refine (placesL_any 5 3 w (by decide) hd.1 hd.2).mono ?_
  rintro e w' ⟨v, rfl, ho, hb⟩
  rw [show (onesL (lowN 5 3) 64).length = 1 + 1 by decide +kernel] at ho
  obtain ⟨g, cap, rfl⟩ := ownsRow_succ ho
  exact ⟨g, cap, rfl, hb⟩

set_option maxHeartbeats 1000000 in
theorem awake_any (w : World) (hd : Dw w) :
    Calls Tryd.prog 9 #[] w fun e w' => e = .returned (.bool true) ∧ Below w.heap.size w w' := by
  go_enter Tryd.func9, Tryd.ntmps9
  go_wp2_with fail
  refine (get_ex _).mono ?_
  rintro e w' ⟨rfl, rfl⟩
  go_wp2_with fail
  refine (first_ex _ hd).mono ?_
  rintro e w1 ⟨rfl, hb1⟩
  go_wp2_with fail
  refine (put_ex _).mono ?_
  rintro e w' ⟨rfl, rfl⟩
  go_wp2_with fail
  refine (ones_ex _ (hd.keep hb1)).mono ?_
  rintro e w2 ⟨rfl, hb2⟩
  obtain ⟨hB2, hz2⟩ := belowStep hb1 hb1.size hb2
  go_wp2_with fail
  refine (places_ex _ ((hd.keep hb1).keep hb2)).mono ?_
  rintro e w3 ⟨g, cap, rfl, hb3⟩
  obtain ⟨hB3, hz3⟩ := belowStep hB2 hz2 hb3
  go_wp2_with fail
  go_ret
  exact ⟨rfl, hB3⟩

def aI (a : Int) : Int := a % 64
def nI (a m : Int) : Int := 1 + m % (64 - a % 64)
theorem nI_bd (a m : Int) (h0 : 0 ≤ a) (h1 : 0 ≤ m) : 1 ≤ nI a m ∧ nI a m ≤ 64 - a % 64 := by
  unfold nI
  have e0 := Int.emod_nonneg m (show 64 - a % 64 ≠ 0 by omega)
  have e1 := Int.emod_lt_of_pos m (show 0 < 64 - a % 64 by omega)
  omega

theorem back_facts (x v A N : Int) (x0 : 0 ≤ x) (v0 : 0 ≤ v) (A0 : 0 ≤ A) (N0 : 1 ≤ N) :
    getI (putI x A N v) A N = v % 2 ^ N.toNat ∧ putI (putI x A N v) A N (getI x A N) = x ∧ putI (putI x A N v) A N v = putI x A N v := by
  obtain ⟨X, rfl⟩ := Int.eq_ofNat_of_zero_le x0
  obtain ⟨V, rfl⟩ := Int.eq_ofNat_of_zero_le v0
  unfold getI putI
  simp only [Int.toNat_natCast]
  refine ⟨?_, ?_, ?_⟩
  · rw [get_put, Int.natCast_emod, Int.natCast_pow]; rfl
  · rw [put_back]
  · rw [put_put]

set_option maxHeartbeats 1000000 in
theorem fieldBack_lt (x a m v : Int) (w : World) (hd : Dw w) (x0 : 0 ≤ x) (x1 : x < 18446744073709551616) (a0 : 0 ≤ a) (a1 : a ≤ 255) (m0 : 0 ≤ m) (m1 : m ≤ 255) (v0 : 0 ≤ v) (v1 : v < 18446744073709551616) (hn : 1 + m % (64 - a % 64) < 64) :
    Calls Tryd.prog 5 #[.int .u64 x, .int .u8 a, .int .u8 m, .int .u64 v] w fun e w' => e = .returned (.bool true) ∧ Below w.heap.size w w' := by
  have e0 := Int.emod_nonneg m (show 64 - a % 64 ≠ 0 by omega)
  have e1 := Int.emod_lt_of_pos m (show 0 < 64 - a % 64 by omega)
  have p0 := putI_bd x (a % 64) (1 + m % (64 - a % 64)) v x0 x1 (by omega) (by omega) (by omega) (by omega)
  have g0 := getI_bd x (a % 64) (1 + m % (64 - a % 64)) x0 x1
  obtain ⟨E1, E2, E3⟩ := back_facts x v (a % 64) (1 + m % (64 - a % 64)) x0 v0 (by omega) (by omega)
  have hlw := low_walk v (1 + m % (64 - a % 64)).toNat v0 v1 (by omega)
  have q1 : (getI (putI x (a % 64) (1 + m % (64 - a % 64)) v) (a % 64) (1 + m % (64 - a % 64)) == bits .and .u64 v (IntKind.u64.wrap (IntKind.u64.wrap (2 ^ (1 + m % (64 - a % 64)).toNat) - 1))) = true := by
    rw [E1, hlw]; simp
  clear hlw
  have q2 : (putI (putI x (a % 64) (1 + m % (64 - a % 64)) v) (a % 64) (1 + m % (64 - a % 64)) (getI x (a % 64) (1 + m % (64 - a % 64))) == x) = true := by simpa using E2
  have q3 : (putI (putI x (a % 64) (1 + m % (64 - a % 64)) v) (a % 64) (1 + m % (64 - a % 64)) v == putI x (a % 64) (1 + m % (64 - a % 64)) v) = true := by simpa using E3
  clear E1 E2 E3
  go_enter Tryd.func5, Tryd.ntmps5
  go_wp2_with fail
  refine (awake_any _ hd).mono ?_
  rintro e w1 ⟨rfl, hb1⟩
  go_wp2_with fail
  go_wp2_with (first
    | (go_at_call 14; ((with_reducible refine (put_yes x (a % 64) (1 + m % (64 - a % 64)) v _ x0 x1 (by omega) (by omega) (by omega) (by omega) v0 v1).mono ?_); rintro e w' ⟨rfl, rfl⟩))
    | (go_at_call 10; ((with_reducible refine (fits_yes (a % 64) (1 + m % (64 - a % 64)) _ (by omega) (by omega) (by omega) (by omega)).mono ?_); rintro e w' ⟨rfl, rfl⟩))
    | (go_at_call 12; ((with_reducible refine (get_yes (putI x (a % 64) (1 + m % (64 - a % 64)) v) (a % 64) (1 + m % (64 - a % 64)) _ p0.1 p0.2 (by omega) (by omega) (by omega) (by omega)).mono ?_); rintro e w' ⟨rfl, rfl⟩))
    | (go_at_call 12; ((with_reducible refine (get_yes x (a % 64) (1 + m % (64 - a % 64)) _ x0 x1 (by omega) (by omega) (by omega) (by omega)).mono ?_); rintro e w' ⟨rfl, rfl⟩))
    | (go_at_call 14; ((with_reducible refine (put_yes (putI x (a % 64) (1 + m % (64 - a % 64)) v) (a % 64) (1 + m % (64 - a % 64)) (getI x (a % 64) (1 + m % (64 - a % 64))) _ p0.1 p0.2 (by omega) (by omega) (by omega) (by omega) g0.1 g0.2).mono ?_); rintro e w' ⟨rfl, rfl⟩))
    | (go_at_call 14; ((with_reducible refine (put_yes (putI x (a % 64) (1 + m % (64 - a % 64)) v) (a % 64) (1 + m % (64 - a % 64)) v _ p0.1 p0.2 (by omega) (by omega) (by omega) (by omega) v0 v1).mono ?_); rintro e w' ⟨rfl, rfl⟩)))
  go_ret
  exact ⟨rfl, hb1⟩

set_option maxHeartbeats 1000000 in
theorem fieldBack_ge (x a m v : Int) (w : World) (hd : Dw w) (x0 : 0 ≤ x) (x1 : x < 18446744073709551616) (a0 : 0 ≤ a) (a1 : a ≤ 255) (m0 : 0 ≤ m) (m1 : m ≤ 255) (v0 : 0 ≤ v) (v1 : v < 18446744073709551616) (hn : 64 ≤ 1 + m % (64 - a % 64)) :
    Calls Tryd.prog 5 #[.int .u64 x, .int .u8 a, .int .u8 m, .int .u64 v] w fun e w' => e = .returned (.bool true) ∧ Below w.heap.size w w' := by
  have e0 := Int.emod_nonneg m (show 64 - a % 64 ≠ 0 by omega)
  have e1 := Int.emod_lt_of_pos m (show 0 < 64 - a % 64 by omega)
  have p0 := putI_bd x (a % 64) (1 + m % (64 - a % 64)) v x0 x1 (by omega) (by omega) (by omega) (by omega)
  have g0 := getI_bd x (a % 64) (1 + m % (64 - a % 64)) x0 x1
  obtain ⟨E1, E2, E3⟩ := back_facts x v (a % 64) (1 + m % (64 - a % 64)) x0 v0 (by omega) (by omega)
  have q1 : (getI (putI x (a % 64) (1 + m % (64 - a % 64)) v) (a % 64) (1 + m % (64 - a % 64)) == v) = true := by
    rw [E1, show (1 + m % (64 - a % 64)).toNat = 64 by omega, show ((2 : Int) ^ 64) = 18446744073709551616 from by decide, Int.emod_eq_of_lt v0 v1]; simp
  have q2 : (putI (putI x (a % 64) (1 + m % (64 - a % 64)) v) (a % 64) (1 + m % (64 - a % 64)) (getI x (a % 64) (1 + m % (64 - a % 64))) == x) = true := by simpa using E2
  have q3 : (putI (putI x (a % 64) (1 + m % (64 - a % 64)) v) (a % 64) (1 + m % (64 - a % 64)) v == putI x (a % 64) (1 + m % (64 - a % 64)) v) = true := by simpa using E3
  clear E1 E2 E3
  go_enter Tryd.func5, Tryd.ntmps5
  go_wp2_with fail
  refine (awake_any _ hd).mono ?_
  rintro e w1 ⟨rfl, hb1⟩
  go_wp2_with fail
  go_wp2_with (first
    | (go_at_call 14; ((with_reducible refine (put_yes x (a % 64) (1 + m % (64 - a % 64)) v _ x0 x1 (by omega) (by omega) (by omega) (by omega) v0 v1).mono ?_); rintro e w' ⟨rfl, rfl⟩))
    | (go_at_call 10; ((with_reducible refine (fits_yes (a % 64) (1 + m % (64 - a % 64)) _ (by omega) (by omega) (by omega) (by omega)).mono ?_); rintro e w' ⟨rfl, rfl⟩))
    | (go_at_call 12; ((with_reducible refine (get_yes (putI x (a % 64) (1 + m % (64 - a % 64)) v) (a % 64) (1 + m % (64 - a % 64)) _ p0.1 p0.2 (by omega) (by omega) (by omega) (by omega)).mono ?_); rintro e w' ⟨rfl, rfl⟩))
    | (go_at_call 12; ((with_reducible refine (get_yes x (a % 64) (1 + m % (64 - a % 64)) _ x0 x1 (by omega) (by omega) (by omega) (by omega)).mono ?_); rintro e w' ⟨rfl, rfl⟩))
    | (go_at_call 14; ((with_reducible refine (put_yes (putI x (a % 64) (1 + m % (64 - a % 64)) v) (a % 64) (1 + m % (64 - a % 64)) (getI x (a % 64) (1 + m % (64 - a % 64))) _ p0.1 p0.2 (by omega) (by omega) (by omega) (by omega) g0.1 g0.2).mono ?_); rintro e w' ⟨rfl, rfl⟩))
    | (go_at_call 14; ((with_reducible refine (put_yes (putI x (a % 64) (1 + m % (64 - a % 64)) v) (a % 64) (1 + m % (64 - a % 64)) v _ p0.1 p0.2 (by omega) (by omega) (by omega) (by omega) v0 v1).mono ?_); rintro e w' ⟨rfl, rfl⟩)))
  go_ret
  exact ⟨rfl, hb1⟩

theorem apart_facts (x v u A n m : Int) (x0 : 0 ≤ x) (v0 : 0 ≤ v) (u0 : 0 ≤ u) (n0 : 1 ≤ n) (nA : n ≤ A) (m0 : 1 ≤ m) :
    putI (putI x (A - n) n v) A m u = putI (putI x A m u) (A - n) n v ∧ getI (putI (putI x (A - n) n v) A m u) (A - n) n = getI v 0 n ∧ getI (putI (putI x (A - n) n v) A m u) A m = getI u 0 m := by
  obtain ⟨X, rfl⟩ := Int.eq_ofNat_of_zero_le x0
  obtain ⟨V, rfl⟩ := Int.eq_ofNat_of_zero_le v0
  obtain ⟨U, rfl⟩ := Int.eq_ofNat_of_zero_le u0
  unfold getI putI
  simp only [Int.toNat_natCast]
  refine ⟨?_, ?_, ?_⟩
  · rw [put_comm _ _ _ _ _ _ _ (by omega)]
  · rw [get_other _ _ _ _ _ _ (by omega), get_put]; simp [getN]
  · rw [get_put]; simp [getN]

set_option maxHeartbeats 2000000 in
theorem fieldApart (x a p q v u : Int) (w : World) (hd : Dw w) (x0 : 0 ≤ x) (x1 : x < 18446744073709551616) (a0 : 0 ≤ a) (a1 : a ≤ 255) (p0 : 0 ≤ p) (p1 : p ≤ 255) (q0 : 0 ≤ q) (q1 : q ≤ 255) (v0 : 0 ≤ v) (v1 : v < 18446744073709551616) (u0 : 0 ≤ u) (u1 : u < 18446744073709551616) :
    Calls Tryd.prog 6 #[.int .u64 x, .int .u8 a, .int .u8 p, .int .u8 q, .int .u64 v, .int .u64 u] w fun e w' => e = .returned (.bool true) ∧ Below w.heap.size w w' := by
  have e0 := Int.emod_nonneg p (show 1 + a % 63 ≠ 0 by omega)
  have e1 := Int.emod_lt_of_pos p (show 0 < 1 + a % 63 by omega)
  have e2 := Int.emod_nonneg q (show 64 - (1 + a % 63) ≠ 0 by omega)
  have e3 := Int.emod_lt_of_pos q (show 0 < 64 - (1 + a % 63) by omega)
  have b1 := putI_bd x ((1 + a % 63) - (1 + p % (1 + a % 63))) (1 + p % (1 + a % 63)) v x0 x1 (by omega) (by omega) (by omega) (by omega)
  have b2 := putI_bd (putI x ((1 + a % 63) - (1 + p % (1 + a % 63))) (1 + p % (1 + a % 63)) v) (1 + a % 63) (1 + q % (64 - (1 + a % 63))) u b1.1 b1.2 (by omega) (by omega) (by omega) (by omega)
  have b3 := putI_bd x (1 + a % 63) (1 + q % (64 - (1 + a % 63))) u x0 x1 (by omega) (by omega) (by omega) (by omega)
  obtain ⟨E1, E2, E3⟩ := apart_facts x v u (1 + a % 63) (1 + p % (1 + a % 63)) (1 + q % (64 - (1 + a % 63))) x0 v0 u0 (by omega) (by omega) (by omega)
  have k1 : ((putI (putI x ((1 + a % 63) - (1 + p % (1 + a % 63))) (1 + p % (1 + a % 63)) v) (1 + a % 63) (1 + q % (64 - (1 + a % 63))) u) == putI (putI x (1 + a % 63) (1 + q % (64 - (1 + a % 63))) u) ((1 + a % 63) - (1 + p % (1 + a % 63))) (1 + p % (1 + a % 63)) v) = true := by simpa using E1
  have k2 : (getI (putI (putI x ((1 + a % 63) - (1 + p % (1 + a % 63))) (1 + p % (1 + a % 63)) v) (1 + a % 63) (1 + q % (64 - (1 + a % 63))) u) ((1 + a % 63) - (1 + p % (1 + a % 63))) (1 + p % (1 + a % 63)) == getI v 0 (1 + p % (1 + a % 63))) = true := by simpa using E2
  have k3 : (getI (putI (putI x ((1 + a % 63) - (1 + p % (1 + a % 63))) (1 + p % (1 + a % 63)) v) (1 + a % 63) (1 + q % (64 - (1 + a % 63))) u) (1 + a % 63) (1 + q % (64 - (1 + a % 63))) == getI u 0 (1 + q % (64 - (1 + a % 63)))) = true := by simpa using E3
  clear E1 E2 E3
  go_enter Tryd.func6, Tryd.ntmps6
  go_wp2_with fail
  refine (awake_any _ hd).mono ?_
  rintro e w1 ⟨rfl, hb1⟩
  go_wp2_with (first | (go_at_call 14; ((with_reducible refine (put_yes x ((1 + a % 63) - (1 + p % (1 + a % 63))) (1 + p % (1 + a % 63)) v _ x0 x1 (by omega) (by omega) (by omega) (by omega) (by omega) (by omega)).mono ?_); rintro e w' ⟨rfl, rfl⟩)) | (go_at_call 14; ((with_reducible refine (put_yes (putI x ((1 + a % 63) - (1 + p % (1 + a % 63))) (1 + p % (1 + a % 63)) v) (1 + a % 63) (1 + q % (64 - (1 + a % 63))) u _ b1.1 b1.2 (by omega) (by omega) (by omega) (by omega) (by omega) (by omega)).mono ?_); rintro e w' ⟨rfl, rfl⟩)) | (go_at_call 14; ((with_reducible refine (put_yes x (1 + a % 63) (1 + q % (64 - (1 + a % 63))) u _ x0 x1 (by omega) (by omega) (by omega) (by omega) (by omega) (by omega)).mono ?_); rintro e w' ⟨rfl, rfl⟩)) | (go_at_call 14; ((with_reducible refine (put_yes (putI x (1 + a % 63) (1 + q % (64 - (1 + a % 63))) u) ((1 + a % 63) - (1 + p % (1 + a % 63))) (1 + p % (1 + a % 63)) v _ b3.1 b3.2 (by omega) (by omega) (by omega) (by omega) (by omega) (by omega)).mono ?_); rintro e w' ⟨rfl, rfl⟩)) | (go_at_call 12; ((with_reducible refine (get_yes (putI (putI x ((1 + a % 63) - (1 + p % (1 + a % 63))) (1 + p % (1 + a % 63)) v) (1 + a % 63) (1 + q % (64 - (1 + a % 63))) u) ((1 + a % 63) - (1 + p % (1 + a % 63))) (1 + p % (1 + a % 63)) _ b2.1 b2.2 (by omega) (by omega) (by omega) (by omega)).mono ?_); rintro e w' ⟨rfl, rfl⟩)) | (go_at_call 12; ((with_reducible refine (get_yes v 0 (1 + p % (1 + a % 63)) _ v0 v1 (by omega) (by omega) (by omega) (by omega)).mono ?_); rintro e w' ⟨rfl, rfl⟩)) | (go_at_call 12; ((with_reducible refine (get_yes (putI (putI x ((1 + a % 63) - (1 + p % (1 + a % 63))) (1 + p % (1 + a % 63)) v) (1 + a % 63) (1 + q % (64 - (1 + a % 63))) u) (1 + a % 63) (1 + q % (64 - (1 + a % 63))) _ b2.1 b2.2 (by omega) (by omega) (by omega) (by omega)).mono ?_); rintro e w' ⟨rfl, rfl⟩)) | (go_at_call 12; ((with_reducible refine (get_yes u 0 (1 + q % (64 - (1 + a % 63))) _ u0 u1 (by omega) (by omega) (by omega) (by omega)).mono ?_); rintro e w' ⟨rfl, rfl⟩)))
  go_ret
  exact ⟨rfl, hb1⟩
end Go.Proofs.YtcidhnpmmohfjaaDoor
