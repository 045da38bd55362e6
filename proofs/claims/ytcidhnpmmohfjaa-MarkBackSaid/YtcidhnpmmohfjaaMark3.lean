/-
  The laws of package mark: the walks.
-/
import Derived.Test.YtcidhnpmmohfjaaMark2
namespace Go.Proofs.Ytcidhnpmmohfjaa
open Go.RowKit

theorem encode_ex (w : World) :
    Calls Try.prog 10 #[.agg #[.int .i64 1, .int .i64 5, .int .u64 3]] w fun e w' => e = .returned (.tuple #[.int .u64 196629, .int .i64 0]) ∧ Below w.heap.size w w' :=
  (encode_t 1 5 3 w (by decide) (by omega)).mono fun _ _ h => h
theorem decode_ex (w : World) :
    Calls Try.prog 14 #[.int .u64 196629] w fun e w' => e = .returned (.tuple #[.agg #[.int .i64 1, .int .i64 5, .int .u64 3], .bool true]) ∧ Below w.heap.size w w' :=
  (decode_t 196629 w (by omega) (by omega) (by decide)).mono fun _ _ h => h
theorem begin_ex (w : World) :
    Calls Try.prog 16 #[.agg #[.int .i64 1, .int .i64 5, .int .u64 3]] w fun e w' => e = .returned (.agg #[.int .i64 1, .int .i64 0, .int .u64 4]) ∧ Below w.heap.size w w' :=
  (begin_any 1 5 3 w (by omega) (by omega)).mono fun _ _ h => h

set_option maxHeartbeats 1000000 in
theorem awake_any (w : World) :
    Calls Try.prog 9 #[] w fun e w' => e = .returned (.bool true) ∧ Below w.heap.size w w' := by
  go_enter Try.func9, Try.ntmps9
  go_wp2_with fail
  refine (encode_ex _).mono ?_
  rintro e w1 ⟨rfl, hb1⟩
  go_wp2_with fail
  refine (decode_ex _).mono ?_
  rintro e w2 ⟨rfl, hb2⟩
  have hz : w.heap.size ≤ w2.heap.size := by have := hb1.size; have := hb2.size; omega
  have hB2 : Below w.heap.size w w2 := hb1.trans (hb2.mono hb1.size)
  go_wp2_with fail
  refine (begin_ex _).mono ?_
  rintro e w3 ⟨rfl, hb3⟩
  obtain ⟨hc3, hf3⟩ := bcell hb3
  have hfd : ∀ w, (Instr.field 24 (.agg #[.int .i64 1, .int .i64 0, .int .u64 4]) 2).run Try.prog w = .ok (.int .u64 4) w := fun _ => by kernel_rfl
  go_wp2_with fail
  refine (end_any _ _ _ _).mono ?_
  rintro e w4 ⟨rfl, hb4⟩
  go_wp2_with fail
  go_ret
  have hz3 : w.heap.size ≤ w3.heap.size := by have := hb3.size; simp at this; omega
  exact ⟨rfl, ((hB2.alloc hz _).trans (hb3.mono (by simp; omega))).trans (hb4.mono hz3)⟩

set_option maxHeartbeats 1000000 in
theorem markEncodes_t (s c g : Int) (w : World) (hg : 0 ≤ g) (h : okB s c g = true) :
    Calls Try.prog 3 #[.agg #[.int .i64 s, .int .i64 c, .int .u64 g]] w fun e w' => e = .returned (.bool true) ∧ Below w.heap.size w w' := by
  have H := Lib.hid h
  clear h
  go_enter Try.func3, Try.ntmps3
  go_wp2_with fail
  refine (awake_any _).mono ?_
  rintro e w1 ⟨rfl, hb1⟩
  have hB1 : Below w.heap.size w w1 := ((Below.refl _ _).alloc (Nat.le_refl _) _).trans (hb1.mono (by simp))
  have hz1 : w.heap.size < w1.heap.size := by have := hb1.size; simp at this; omega
  have c0 : w1.cell? ⟨w.heap.size, 0, none⟩ = some (.int .i64 s) := by rw [(bcell hb1).1 _ _ (by simp)]; simp [go_sem]
  have c1 : w1.cell? ⟨w.heap.size, 1, none⟩ = some (.int .i64 c) := by rw [(bcell hb1).1 _ _ (by simp)]; simp [go_sem]
  have c2 : w1.cell? ⟨w.heap.size, 2, none⟩ = some (.int .u64 g) := by rw [(bcell hb1).1 _ _ (by simp)]; simp [go_sem]
  go_wp2_with fail
  refine (encode_t s c g _ H.out hg).mono ?_
  rintro e w2 ⟨rfl, hb2⟩
  have hB2 : Below w.heap.size w w2 := hB1.trans (hb2.mono (by omega))
  have hz2 : w.heap.size < w2.heap.size := by have := hb2.size; omega
  have d0 : w2.cell? ⟨w.heap.size, 0, none⟩ = some (.int .i64 s) := by rw [(bcell hb2).1 _ _ hz1]; exact c0
  have d1 : w2.cell? ⟨w.heap.size, 1, none⟩ = some (.int .i64 c) := by rw [(bcell hb2).1 _ _ hz1]; exact c1
  have d2 : w2.cell? ⟨w.heap.size, 2, none⟩ = some (.int .u64 g) := by rw [(bcell hb2).1 _ _ hz1]; exact c2
  go_wp2_with fail
  refine (refEncode_t s c g _ H.out hg).mono ?_
  rintro e w3 ⟨rfl, hb3⟩
  have hB3 : Below w.heap.size w w3 := hB2.trans (hb3.mono (by omega))
  have hz3 : w.heap.size < w3.heap.size := by have := hb3.size; omega
  have e0 : w3.cell? ⟨w.heap.size, 0, none⟩ = some (.int .i64 s) := by rw [(bcell hb3).1 _ _ hz2]; exact d0
  have e1 : w3.cell? ⟨w.heap.size, 1, none⟩ = some (.int .i64 c) := by rw [(bcell hb3).1 _ _ hz2]; exact d1
  have e2 : w3.cell? ⟨w.heap.size, 2, none⟩ = some (.int .u64 g) := by rw [(bcell hb3).1 _ _ hz2]; exact d2
  clear c0 c1 c2 d0 d1 d2
  go_wp2_with fail
  go_region_held3 (fun w' => w'.cell? ⟨w.heap.size, 0, none⟩ = some (.int .i64 s) ∧ w'.cell? ⟨w.heap.size, 1, none⟩ = some (.int .i64 c) ∧ w'.cell? ⟨w.heap.size, 2, none⟩ = some (.int .u64 g) ∧ w.heap.size < w'.heap.size ∧ Below w.heap.size w w')
    (((try go_split_ands); refine ⟨?_, ?_, ?_, ?_, ?_⟩ <;> first
      | (rw [hb.cell (by assumption)]; assumption) | (have := hb.size; omega) | (exact Below.trans (by assumption) (hb.mono (Nat.le_of_lt (by assumption))))
      | (go_keep; done) | (go_grown; done)))
    ((first | (go_at_call 12; refine (right_t s c g _ H.out).mono ?_; rintro e w4 ⟨rfl, hb⟩) | (go_at_call 13; refine (refRight_t s c g _ H.out).mono ?_; rintro e w4 ⟨rfl, hb⟩)))
  go_wp2_with fail
  go_ret
  go_split_ands
  exact ⟨rfl, by assumption⟩

set_option maxHeartbeats 1000000 in
theorem markEncodes_f (s c g : Int) (w : World) (h : okB s c g = false) :
    Calls Try.prog 3 #[.agg #[.int .i64 s, .int .i64 c, .int .u64 g]] w fun e w' => e = .returned (.bool true) ∧ Below w.heap.size w w' := by
  have H := Lib.hid h
  clear h
  go_enter Try.func3, Try.ntmps3
  go_wp2_with fail
  refine (awake_any _).mono ?_
  rintro e w1 ⟨rfl, hb1⟩
  have hB1 : Below w.heap.size w w1 := ((Below.refl _ _).alloc (Nat.le_refl _) _).trans (hb1.mono (by simp))
  have hz1 : w.heap.size < w1.heap.size := by have := hb1.size; simp at this; omega
  have c0 : w1.cell? ⟨w.heap.size, 0, none⟩ = some (.int .i64 s) := by rw [(bcell hb1).1 _ _ (by simp)]; simp [go_sem]
  have c1 : w1.cell? ⟨w.heap.size, 1, none⟩ = some (.int .i64 c) := by rw [(bcell hb1).1 _ _ (by simp)]; simp [go_sem]
  have c2 : w1.cell? ⟨w.heap.size, 2, none⟩ = some (.int .u64 g) := by rw [(bcell hb1).1 _ _ (by simp)]; simp [go_sem]
  go_wp2_with fail
  refine (encode_f s c g _ H.out).mono ?_
  rintro e w2 ⟨rfl, hb2⟩
  have hB2 : Below w.heap.size w w2 := hB1.trans (hb2.mono (by omega))
  have hz2 : w.heap.size < w2.heap.size := by have := hb2.size; omega
  have d0 : w2.cell? ⟨w.heap.size, 0, none⟩ = some (.int .i64 s) := by rw [(bcell hb2).1 _ _ hz1]; exact c0
  have d1 : w2.cell? ⟨w.heap.size, 1, none⟩ = some (.int .i64 c) := by rw [(bcell hb2).1 _ _ hz1]; exact c1
  have d2 : w2.cell? ⟨w.heap.size, 2, none⟩ = some (.int .u64 g) := by rw [(bcell hb2).1 _ _ hz1]; exact c2
  go_wp2_with fail
  refine (refEncode_f s c g _ H.out).mono ?_
  rintro e w3 ⟨rfl, hb3⟩
  have hB3 : Below w.heap.size w w3 := hB2.trans (hb3.mono (by omega))
  have hz3 : w.heap.size < w3.heap.size := by have := hb3.size; omega
  have e0 : w3.cell? ⟨w.heap.size, 0, none⟩ = some (.int .i64 s) := by rw [(bcell hb3).1 _ _ hz2]; exact d0
  have e1 : w3.cell? ⟨w.heap.size, 1, none⟩ = some (.int .i64 c) := by rw [(bcell hb3).1 _ _ hz2]; exact d1
  have e2 : w3.cell? ⟨w.heap.size, 2, none⟩ = some (.int .u64 g) := by rw [(bcell hb3).1 _ _ hz2]; exact d2
  clear c0 c1 c2 d0 d1 d2
  go_wp2_with fail
  go_region_held3 (fun w' => w'.cell? ⟨w.heap.size, 0, none⟩ = some (.int .i64 s) ∧ w'.cell? ⟨w.heap.size, 1, none⟩ = some (.int .i64 c) ∧ w'.cell? ⟨w.heap.size, 2, none⟩ = some (.int .u64 g) ∧ w.heap.size < w'.heap.size ∧ Below w.heap.size w w')
    (((try go_split_ands); refine ⟨?_, ?_, ?_, ?_, ?_⟩ <;> first
      | (rw [hb.cell (by assumption)]; assumption) | (have := hb.size; omega) | (exact Below.trans (by assumption) (hb.mono (Nat.le_of_lt (by assumption))))
      | (go_keep; done) | (go_grown; done)))
    ((first | (go_at_call 12; refine (right_f s c g _ H.out).mono ?_; rintro e w4 ⟨rfl, hb⟩) | (go_at_call 13; refine (refRight_f s c g _ H.out).mono ?_; rintro e w4 ⟨rfl, hb⟩)))
  go_wp2_with fail
  go_ret
  go_split_ands
  exact ⟨rfl, by assumption⟩

end Go.Proofs.Ytcidhnpmmohfjaa
