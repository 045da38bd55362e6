/-
  The laws of package mark: the walks (5).
-/
import Derived.Test.YtcidhnpmmohfjaaMark4
namespace Go.Proofs.Ytcidhnpmmohfjaa
open Go.RowKit

set_option maxHeartbeats 1000000 in
theorem markUnlike_tt_same (s c g : Int) (w : World) (hg : 0 ≤ g) (h : okB s c g = true) :
    Calls Try.prog 8 #[.agg #[.int .i64 s, .int .i64 c, .int .u64 g], .agg #[.int .i64 s, .int .i64 c, .int .u64 g]] w fun e w' => e = .returned (.bool true) ∧ Below w.heap.size w w' := by
  have H := Lib.hid h
  clear h
  go_enter Try.func8, Try.ntmps8
  go_wp2_with fail
  refine (awake_any _).mono ?_
  rintro e w1 ⟨rfl, hb1⟩
  have k1 := ((C3.new w (.int .i64 s) (.int .i64 c) (.int .u64 g) 24).alloc (.cells #[.int .i64 s, .int .i64 c, .int .u64 g] 24)).keep hb1
  have l1 := (C3.new (w.alloc (.cells #[.int .i64 s, .int .i64 c, .int .u64 g] 24)) (.int .i64 s) (.int .i64 c) (.int .u64 g) 24).keep hb1
  simp only [World.size_alloc] at l1
  have hB1 : Below w.heap.size w w1 := (((Below.refl _ _).alloc (Nat.le_refl _) _).alloc (by simp) _).trans (hb1.mono (by simp; omega))
  obtain ⟨p0, p1, p2⟩ := id k1
  obtain ⟨d0, d1, d2⟩ := id l1
  go_wp2_with fail
  refine (encode_t s c g _ H.out hg).mono ?_
  rintro e w2 ⟨rfl, hb2⟩
  obtain ⟨hB2, hz2⟩ := belowStep hB1 (Nat.le_of_lt k1.lt) hb2
  have k2 := k1.keep hb2
  have l2 := l1.keep hb2
  clear p0 p1 p2 d0 d1 d2
  obtain ⟨p0, p1, p2⟩ := id k2
  obtain ⟨d0, d1, d2⟩ := id l2
  go_wp2_with fail
  refine (encode_t s c g _ H.out hg).mono ?_
  rintro e w3 ⟨rfl, hb3⟩
  obtain ⟨hB3, hz3⟩ := belowStep hB2 hz2 hb3
  have k3 := k2.keep hb3
  have l3 := l2.keep hb3
  clear p0 p1 p2 d0 d1 d2
  obtain ⟨p0, p1, p2⟩ := id k3
  obtain ⟨d0, d1, d2⟩ := id l3
  go_wp2_with fail
  go_ret
  exact ⟨rfl, by first | assumption | go_grown⟩

set_option maxHeartbeats 1000000 in
theorem markUnlike_tt_not (s c g s2 c2 g2 : Int) (w : World) (hg : 0 ≤ g) (hg2 : 0 ≤ g2) (h : okB s c g = true) (k : okB s2 c2 g2 = true) (hn : ¬ (s = s2 ∧ c = c2 ∧ g = g2)) :
    Calls Try.prog 8 #[.agg #[.int .i64 s, .int .i64 c, .int .u64 g], .agg #[.int .i64 s2, .int .i64 c2, .int .u64 g2]] w fun e w' => e = .returned (.bool true) ∧ Below w.heap.size w w' := by
  have H := Lib.hid h
  have K := Lib.hid k
  obtain ⟨a1, a2, a3, a4, a5, _⟩ := okB_t h
  obtain ⟨b1, b2, b3, b4, b5, _⟩ := okB_t k
  have HN : Hid (((s + c * 4 + g * 65536) == (s2 + c2 * 4 + g2 * 65536)) = false) := by
    show ((s + c * 4 + g * 65536) == (s2 + c2 * 4 + g2 * 65536)) = false
    rw [beq_eq_false_iff_ne]; intro h; apply hn; refine ⟨?_, ?_, ?_⟩ <;> omega
  have HM := Lib.hid hn
  clear h k hn a1 a2 a3 a4 a5 b1 b2 b3 b4 b5
  go_enter Try.func8, Try.ntmps8
  go_wp2_with fail
  refine (awake_any _).mono ?_
  rintro e w1 ⟨rfl, hb1⟩
  have k1 := ((C3.new w (.int .i64 s) (.int .i64 c) (.int .u64 g) 24).alloc (.cells #[.int .i64 s2, .int .i64 c2, .int .u64 g2] 24)).keep hb1
  have l1 := (C3.new (w.alloc (.cells #[.int .i64 s, .int .i64 c, .int .u64 g] 24)) (.int .i64 s2) (.int .i64 c2) (.int .u64 g2) 24).keep hb1
  simp only [World.size_alloc] at l1
  have hB1 : Below w.heap.size w w1 := (((Below.refl _ _).alloc (Nat.le_refl _) _).alloc (by simp) _).trans (hb1.mono (by simp; omega))
  obtain ⟨p0, p1, p2⟩ := id k1
  obtain ⟨d0, d1, d2⟩ := id l1
  go_wp2_with fail
  refine (encode_t s c g _ H.out hg).mono ?_
  rintro e w2 ⟨rfl, hb2⟩
  obtain ⟨hB2, hz2⟩ := belowStep hB1 (Nat.le_of_lt k1.lt) hb2
  have k2 := k1.keep hb2
  have l2 := l1.keep hb2
  clear p0 p1 p2 d0 d1 d2
  obtain ⟨p0, p1, p2⟩ := id k2
  obtain ⟨d0, d1, d2⟩ := id l2
  go_wp2_with fail
  refine (encode_t s2 c2 g2 _ K.out hg2).mono ?_
  rintro e w3 ⟨rfl, hb3⟩
  obtain ⟨hB3, hz3⟩ := belowStep hB2 hz2 hb3
  have k3 := k2.keep hb3
  have l3 := l2.keep hb3
  clear p0 p1 p2 d0 d1 d2
  obtain ⟨p0, p1, p2⟩ := id k3
  obtain ⟨d0, d1, d2⟩ := id l3
  go_wp2_with fail
  all_goals
    go_ret
    refine ⟨?_, by first | assumption | go_grown⟩
    first
      | exact ret_b rfl
      | (have h := HN.out; clear HM; exact ret_b (by simp_all))

set_option maxHeartbeats 1000000 in
theorem markUnlike_tf (s c g s2 c2 g2 : Int) (w : World) (hg : 0 ≤ g) (_hg2 : 0 ≤ g2) (h : okB s c g = true) (k : okB s2 c2 g2 = false) :
    Calls Try.prog 8 #[.agg #[.int .i64 s, .int .i64 c, .int .u64 g], .agg #[.int .i64 s2, .int .i64 c2, .int .u64 g2]] w fun e w' => e = .returned (.bool true) ∧ Below w.heap.size w w' := by
  have H := Lib.hid h
  have K := Lib.hid k
  clear h k
  go_enter Try.func8, Try.ntmps8
  go_wp2_with fail
  refine (awake_any _).mono ?_
  rintro e w1 ⟨rfl, hb1⟩
  have k1 := ((C3.new w (.int .i64 s) (.int .i64 c) (.int .u64 g) 24).alloc (.cells #[.int .i64 s2, .int .i64 c2, .int .u64 g2] 24)).keep hb1
  have l1 := (C3.new (w.alloc (.cells #[.int .i64 s, .int .i64 c, .int .u64 g] 24)) (.int .i64 s2) (.int .i64 c2) (.int .u64 g2) 24).keep hb1
  simp only [World.size_alloc] at l1
  have hB1 : Below w.heap.size w w1 := (((Below.refl _ _).alloc (Nat.le_refl _) _).alloc (by simp) _).trans (hb1.mono (by simp; omega))
  obtain ⟨p0, p1, p2⟩ := id k1
  obtain ⟨d0, d1, d2⟩ := id l1
  go_wp2_with fail
  refine (encode_t s c g _ H.out hg).mono ?_
  rintro e w2 ⟨rfl, hb2⟩
  obtain ⟨hB2, hz2⟩ := belowStep hB1 (Nat.le_of_lt k1.lt) hb2
  have k2 := k1.keep hb2
  have l2 := l1.keep hb2
  clear p0 p1 p2 d0 d1 d2
  obtain ⟨p0, p1, p2⟩ := id k2
  obtain ⟨d0, d1, d2⟩ := id l2
  go_wp2_with fail
  refine (encode_f s2 c2 g2 _ K.out).mono ?_
  rintro e w3 ⟨rfl, hb3⟩
  obtain ⟨hB3, hz3⟩ := belowStep hB2 hz2 hb3
  have k3 := k2.keep hb3
  have l3 := l2.keep hb3
  clear p0 p1 p2 d0 d1 d2
  obtain ⟨p0, p1, p2⟩ := id k3
  obtain ⟨d0, d1, d2⟩ := id l3
  go_wp2_with fail
  go_ret
  exact ⟨rfl, by first | assumption | go_grown⟩

set_option maxHeartbeats 1000000 in
theorem markUnlike_ft (s c g s2 c2 g2 : Int) (w : World) (_hg : 0 ≤ g) (hg2 : 0 ≤ g2) (h : okB s c g = false) (k : okB s2 c2 g2 = true) :
    Calls Try.prog 8 #[.agg #[.int .i64 s, .int .i64 c, .int .u64 g], .agg #[.int .i64 s2, .int .i64 c2, .int .u64 g2]] w fun e w' => e = .returned (.bool true) ∧ Below w.heap.size w w' := by
  have H := Lib.hid h
  have K := Lib.hid k
  clear h k
  go_enter Try.func8, Try.ntmps8
  go_wp2_with fail
  refine (awake_any _).mono ?_
  rintro e w1 ⟨rfl, hb1⟩
  have k1 := ((C3.new w (.int .i64 s) (.int .i64 c) (.int .u64 g) 24).alloc (.cells #[.int .i64 s2, .int .i64 c2, .int .u64 g2] 24)).keep hb1
  have l1 := (C3.new (w.alloc (.cells #[.int .i64 s, .int .i64 c, .int .u64 g] 24)) (.int .i64 s2) (.int .i64 c2) (.int .u64 g2) 24).keep hb1
  simp only [World.size_alloc] at l1
  have hB1 : Below w.heap.size w w1 := (((Below.refl _ _).alloc (Nat.le_refl _) _).alloc (by simp) _).trans (hb1.mono (by simp; omega))
  obtain ⟨p0, p1, p2⟩ := id k1
  obtain ⟨d0, d1, d2⟩ := id l1
  go_wp2_with fail
  refine (encode_f s c g _ H.out).mono ?_
  rintro e w2 ⟨rfl, hb2⟩
  obtain ⟨hB2, hz2⟩ := belowStep hB1 (Nat.le_of_lt k1.lt) hb2
  have k2 := k1.keep hb2
  have l2 := l1.keep hb2
  clear p0 p1 p2 d0 d1 d2
  obtain ⟨p0, p1, p2⟩ := id k2
  obtain ⟨d0, d1, d2⟩ := id l2
  go_wp2_with fail
  refine (encode_t s2 c2 g2 _ K.out hg2).mono ?_
  rintro e w3 ⟨rfl, hb3⟩
  obtain ⟨hB3, hz3⟩ := belowStep hB2 hz2 hb3
  have k3 := k2.keep hb3
  have l3 := l2.keep hb3
  clear p0 p1 p2 d0 d1 d2
  obtain ⟨p0, p1, p2⟩ := id k3
  obtain ⟨d0, d1, d2⟩ := id l3
  go_wp2_with fail
  go_ret
  exact ⟨rfl, by first | assumption | go_grown⟩

set_option maxHeartbeats 1000000 in
theorem markUnlike_ff (s c g s2 c2 g2 : Int) (w : World) (_hg : 0 ≤ g) (_hg2 : 0 ≤ g2) (h : okB s c g = false) (k : okB s2 c2 g2 = false) :
    Calls Try.prog 8 #[.agg #[.int .i64 s, .int .i64 c, .int .u64 g], .agg #[.int .i64 s2, .int .i64 c2, .int .u64 g2]] w fun e w' => e = .returned (.bool true) ∧ Below w.heap.size w w' := by
  have H := Lib.hid h
  have K := Lib.hid k
  clear h k
  go_enter Try.func8, Try.ntmps8
  go_wp2_with fail
  refine (awake_any _).mono ?_
  rintro e w1 ⟨rfl, hb1⟩
  have k1 := ((C3.new w (.int .i64 s) (.int .i64 c) (.int .u64 g) 24).alloc (.cells #[.int .i64 s2, .int .i64 c2, .int .u64 g2] 24)).keep hb1
  have l1 := (C3.new (w.alloc (.cells #[.int .i64 s, .int .i64 c, .int .u64 g] 24)) (.int .i64 s2) (.int .i64 c2) (.int .u64 g2) 24).keep hb1
  simp only [World.size_alloc] at l1
  have hB1 : Below w.heap.size w w1 := (((Below.refl _ _).alloc (Nat.le_refl _) _).alloc (by simp) _).trans (hb1.mono (by simp; omega))
  obtain ⟨p0, p1, p2⟩ := id k1
  obtain ⟨d0, d1, d2⟩ := id l1
  go_wp2_with fail
  refine (encode_f s c g _ H.out).mono ?_
  rintro e w2 ⟨rfl, hb2⟩
  obtain ⟨hB2, hz2⟩ := belowStep hB1 (Nat.le_of_lt k1.lt) hb2
  have k2 := k1.keep hb2
  have l2 := l1.keep hb2
  clear p0 p1 p2 d0 d1 d2
  obtain ⟨p0, p1, p2⟩ := id k2
  obtain ⟨d0, d1, d2⟩ := id l2
  go_wp2_with fail
  refine (encode_f s2 c2 g2 _ K.out).mono ?_
  rintro e w3 ⟨rfl, hb3⟩
  obtain ⟨hB3, hz3⟩ := belowStep hB2 hz2 hb3
  have k3 := k2.keep hb3
  have l3 := l2.keep hb3
  clear p0 p1 p2 d0 d1 d2
  obtain ⟨p0, p1, p2⟩ := id k3
  obtain ⟨d0, d1, d2⟩ := id l3
  go_wp2_with fail
  go_ret
  exact ⟨rfl, by first | assumption | go_grown⟩

end Go.Proofs.Ytcidhnpmmohfjaa
