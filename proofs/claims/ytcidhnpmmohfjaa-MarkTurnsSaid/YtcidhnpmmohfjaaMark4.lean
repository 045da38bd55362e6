/-
  The laws of package mark: the walks (2).
-/
import Derived.Test.YtcidhnpmmohfjaaMark3
namespace Go.Proofs.Ytcidhnpmmohfjaa
open Go.RowKit

def C3 (w : World) (b : Nat) (x y z : Value) : Prop := w.cell? ⟨b, 0, none⟩ = some x ∧ w.cell? ⟨b, 1, none⟩ = some y ∧ w.cell? ⟨b, 2, none⟩ = some z
theorem C3.lt {w : World} {b : Nat} {x y z : Value} (h : C3 w b x y z) : b < w.heap.size := World.block_lt_of_cell? w _ h.1
theorem C3.keep {W w1 : World} {b : Nat} {x y z : Value} (h : C3 W b x y z) (hb : Below W.heap.size W w1) : C3 w1 b x y z :=
  ⟨by rw [(bcell hb).1 _ _ h.lt]; exact h.1, by rw [(bcell hb).1 _ _ h.lt]; exact h.2.1, by rw [(bcell hb).1 _ _ h.lt]; exact h.2.2⟩
theorem C3.new (w : World) (x y z : Value) (t : TypeId) : C3 (w.alloc (.cells #[x, y, z] t)) w.heap.size x y z := by
  refine ⟨?_, ?_, ?_⟩ <;> simp [go_sem]
theorem C3.alloc {W : World} {b : Nat} {x y z : Value} (h : C3 W b x y z) (o : Obj) : C3 (W.alloc o) b x y z :=
  h.keep ((Below.refl _ _).alloc (Nat.le_refl _) _)

set_option maxHeartbeats 1000000 in
theorem markDecodes_t (x : Int) (w : World) (h0 : 0 ≤ x) (h1 : x < 18446744073709551616) (h : okB (x % 4) (x / 4 % 16384) (x / 65536) = true) :
    Calls Try.prog 4 #[.int .u64 x] w fun e w' => e = .returned (.bool true) ∧ Below w.heap.size w w' := by
  have H := Lib.hid h
  clear h
  go_enter Try.func4, Try.ntmps4
  go_wp2_with fail
  refine (awake_any _).mono ?_
  rintro e w1 ⟨rfl, hb1⟩
  go_wp2_with fail
  refine (decode_t x _ h0 h1 H.out).mono ?_
  rintro e w2 ⟨rfl, hb2⟩
  obtain ⟨hB2, hz2⟩ := belowStep hb1 hb1.size hb2
  go_wp2_with fail
  refine (refDecode_t x _ h0 h1 H.out).mono ?_
  rintro e w3 ⟨rfl, hb3⟩
  obtain ⟨hc3, hf3⟩ := bcell hb3
  have hB3 := (hB2.alloc hz2 (.cells #[.int .i64 (x % 4), .int .i64 (x / 4 % 16384), .int .u64 (x / 65536)] 24)).trans (hb3.mono (by simp; omega))
  have hz3 : w2.heap.size < w3.heap.size := by have := hb3.size; simp at this; omega
  go_wp2_with fail
  go_ret
  exact ⟨rfl, hB3.alloc (by omega) _⟩

set_option maxHeartbeats 1000000 in
theorem markDecodes_f (x : Int) (w : World) (h0 : 0 ≤ x) (h1 : x < 18446744073709551616) (h : okB (x % 4) (x / 4 % 16384) (x / 65536) = false) :
    Calls Try.prog 4 #[.int .u64 x] w fun e w' => e = .returned (.bool true) ∧ Below w.heap.size w w' := by
  have H := Lib.hid h
  clear h
  go_enter Try.func4, Try.ntmps4
  go_wp2_with fail
  refine (awake_any _).mono ?_
  rintro e w1 ⟨rfl, hb1⟩
  go_wp2_with fail
  refine (decode_f x _ h0 h1 H.out).mono ?_
  rintro e w2 ⟨rfl, hb2⟩
  obtain ⟨hB2, hz2⟩ := belowStep hb1 hb1.size hb2
  go_wp2_with fail
  refine (refDecode_f x _ h0 h1 H.out).mono ?_
  rintro e w3 ⟨rfl, hb3⟩
  obtain ⟨hc3, hf3⟩ := bcell hb3
  have hB3 := (hB2.alloc hz2 (.cells #[.int .i64 0, .int .i64 0, .int .u64 0] 24)).trans (hb3.mono (by simp; omega))
  have hz3 : w2.heap.size < w3.heap.size := by have := hb3.size; simp at this; omega
  go_wp2_with fail
  go_ret
  exact ⟨rfl, hB3.alloc (by omega) _⟩

set_option maxHeartbeats 1000000 in
theorem markTurns_f (s c g : Int) (w : World) (h : okB s c g = false) :
    Calls Try.prog 5 #[.agg #[.int .i64 s, .int .i64 c, .int .u64 g]] w fun e w' => e = .returned (.bool true) ∧ Below w.heap.size w w' := by
  have H := Lib.hid h
  clear h
  go_enter Try.func5, Try.ntmps5
  go_wp2_with fail
  refine (awake_any _).mono ?_
  rintro e w1 ⟨rfl, hb1⟩
  have k1 := (C3.new w (.int .i64 s) (.int .i64 c) (.int .u64 g) 24).keep hb1
  have hB1 : Below w.heap.size w w1 := ((Below.refl _ _).alloc (Nat.le_refl _) _).trans (hb1.mono (by simp))
  obtain ⟨c0, c1, c2⟩ := id k1
  go_wp2_with fail
  refine (refRight_f s c g _ H.out).mono ?_
  rintro e w2 ⟨rfl, hb2⟩
  go_wp2_with fail
  go_ret
  exact ⟨rfl, (belowStep hB1 (Nat.le_of_lt k1.lt) hb2).1⟩

set_option maxHeartbeats 1000000 in
theorem markTurns_t (s c g : Int) (w : World) (h0 : 0 ≤ g) (h : okB s c g = true) :
    Calls Try.prog 5 #[.agg #[.int .i64 s, .int .i64 c, .int .u64 g]] w fun e w' => e = .returned (.bool true) ∧ Below w.heap.size w w' := by
  obtain ⟨_, _, _, _, h1, _⟩ := okB_t h
  have H := Lib.hid h
  clear h
  have hR1 : Hid (okB 1 0 (nextG g) = true) := by
    show okB 1 0 (nextG g) = true
    by_cases hg : g = 281474976710655
    · simp [okB, nextG, hg]
    · simp [okB, nextG, hg]; omega
  have hR2 : Hid (okB 0 0 g = true) := by
    show okB 0 0 g = true
    simp [okB]; omega
  go_enter Try.func5, Try.ntmps5
  go_wp2_with fail
  refine (awake_any _).mono ?_
  rintro e w1 ⟨rfl, hb1⟩
  have k1 := (C3.new w (.int .i64 s) (.int .i64 c) (.int .u64 g) 24).keep hb1
  have hB1 : Below w.heap.size w w1 := ((Below.refl _ _).alloc (Nat.le_refl _) _).trans (hb1.mono (by simp))
  obtain ⟨c0, c1, c2⟩ := id k1
  go_wp2_with fail
  refine (refRight_t s c g _ H.out).mono ?_
  rintro e w2 ⟨rfl, hb2⟩
  obtain ⟨hB2, hz2⟩ := belowStep hB1 (Nat.le_of_lt k1.lt) hb2
  have k2 := k1.keep hb2
  obtain ⟨d0, d1, d2⟩ := id k2
  clear c0 c1 c2
  go_wp2_with fail
  refine (begin_any s c g _ h0 h1).mono ?_
  rintro e w3 ⟨rfl, hb3⟩
  obtain ⟨hB3, hz3⟩ := belowStep hB2 hz2 hb3
  have k3 := k2.keep hb3
  obtain ⟨c0, c1, c2⟩ := id k3
  have lt1 := k3.lt
  clear d0 d1 d2
  go_wp2_with fail
  refine (end_any s c g _).mono ?_
  rintro e w4 ⟨rfl, hb4⟩
  have a3 := C3.new w3 (.int .i64 1) (.int .i64 0) (.int .u64 (nextG g)) 24
  obtain ⟨hB4, hz4⟩ := belowStep (hB3.alloc hz3 (.cells #[.int .i64 1, .int .i64 0, .int .u64 (nextG g)] 24)) (by simp; omega) hb4
  have k4 := (k3.alloc _).keep hb4
  have a4 := a3.keep hb4
  obtain ⟨d0, d1, d2⟩ := id k4
  obtain ⟨e0, e1, e2⟩ := id a4
  clear c0 c1 c2
  have lt3 := k4.lt
  have lt4 := a4.lt
  go_wp2_with fail
  have hB5 : Below w.heap.size w (w4.alloc (.cells #[.int .i64 0, .int .i64 0, .int .u64 g] 24)) := hB4.alloc hz4 _
  have lt5 : w.heap.size < (w4.alloc (.cells #[.int .i64 0, .int .i64 0, .int .u64 g] 24)).heap.size := by simp; omega
  have lt6 : w3.heap.size < (w4.alloc (.cells #[.int .i64 0, .int .i64 0, .int .u64 g] 24)).heap.size := by simp; omega
  go_region_held3 (fun w' => w'.cell? ⟨w.heap.size, 0, none⟩ = some (.int .i64 s) ∧ w'.cell? ⟨w.heap.size, 1, none⟩ = some (.int .i64 c) ∧ w'.cell? ⟨w.heap.size, 2, none⟩ = some (.int .u64 g) ∧ w.heap.size < w'.heap.size ∧ w'.cell? ⟨w3.heap.size, 0, none⟩ = some (.int .i64 1) ∧ w'.cell? ⟨w3.heap.size, 1, none⟩ = some (.int .i64 0) ∧ w'.cell? ⟨w3.heap.size, 2, none⟩ = some (.int .u64 (nextG g)) ∧ w3.heap.size < w'.heap.size ∧ w'.cell? ⟨w4.heap.size, 0, none⟩ = some (.int .i64 0) ∧ w'.cell? ⟨w4.heap.size, 1, none⟩ = some (.int .i64 0) ∧ w'.cell? ⟨w4.heap.size, 2, none⟩ = some (.int .u64 g) ∧ w4.heap.size < w'.heap.size ∧ Below w.heap.size w w')
    (((try go_split_ands); refine ⟨?_, ?_, ?_, ?_, ?_, ?_, ?_, ?_, ?_, ?_, ?_, ?_, ?_⟩ <;> first
      | (rw [hb.cell (by assumption)]; assumption) | assumption | (have := hb.size; omega) | (exact Below.trans (by assumption) (hb.mono (Nat.le_of_lt (by assumption))))
      | (go_keep; done) | (go_grown; done)))
    ((first | (go_at_call 18; refine (refBegin_any s c g _ h0 h1).mono ?_; rintro e w6 ⟨rfl, hb⟩) | (go_at_call 19; refine (refEnd_any s c g _).mono ?_; rintro e w6 ⟨rfl, hb⟩) | (go_at_call 12; (with_reducible refine (right_t 1 0 (nextG g) _ hR1.out).mono ?_); rintro e w6 ⟨rfl, hb⟩) | (go_at_call 12; (with_reducible refine (right_t 0 0 g _ hR2.out).mono ?_); rintro e w6 ⟨rfl, hb⟩)))
  go_wp2_with fail
  go_ret
  go_split_ands
  exact ⟨rfl, by assumption⟩

end Go.Proofs.Ytcidhnpmmohfjaa
