/-
  The laws of package geo: the walks.
-/
import Derived.Test.YtalplklaepbaeaaGeo6
namespace Go.Proofs.Ytalplklaepbaeaa
open Go.RowKit

theorem ex_ok : gOk 149 1 = true := by decide
theorem ex_right (w : World) : Calls Try.prog 9 #[.agg #[.int .i64 149, .int .i64 1]] w fun e w' => e = .returned (.bool true) ∧ Below w.heap.size w w' := right_t 149 1 w ex_ok
theorem ex_chunks (w : World) : Calls Try.prog 11 #[.agg #[.int .i64 149, .int .i64 1]] w fun e w' => e = .returned (.int .i64 2) ∧ Below w.heap.size w w' := (chunks_t 149 1 w ex_ok).mono fun _ _ h => h
theorem ex_table (w : World) : Calls Try.prog 19 #[.agg #[.int .i64 149, .int .i64 1]] w fun e w' => e = .returned (.agg #[.int .i64 83, .int .i64 2]) ∧ Below w.heap.size w w' := (table_t 149 1 w ex_ok).mono fun _ _ h => h
theorem ex_chunk (w : World) : Calls Try.prog 21 #[.agg #[.int .i64 149, .int .i64 1], .int .i64 0] w fun e w' => e = .returned (.agg #[.int .i64 85, .int .i64 32]) ∧ Below w.heap.size w w' := (chunk_yes 149 1 0 w ex_ok (by decide) (by decide)).mono fun _ _ h => h

set_option maxHeartbeats 1000000 in
theorem awake_any (w : World) :
    Calls Try.prog 8 #[] w fun e w' => e = .returned (.bool true) ∧ Below w.heap.size w w' := by
  go_enter Try.func8, Try.ntmps8
  go_wp2_with fail
  refine (ex_right _).mono ?_
  rintro e w1 ⟨rfl, hb1⟩
  have k1 := (C2.new w (.int .i64 149) (.int .i64 1) 23).keep hb1
  have hB1 : Below w.heap.size w w1 := ((Below.refl _ _).alloc (Nat.le_refl _) _).trans (hb1.mono (by simp))
  obtain ⟨c0, c1⟩ := id k1
  go_wp2_with fail
  refine (ex_chunks _).mono ?_
  rintro e w2 ⟨rfl, hb2⟩
  have k2 := k1.keep hb2
  obtain ⟨hB2, hz2⟩ := belowStep hB1 (Nat.le_of_lt k1.lt) hb2
  clear c0 c1
  obtain ⟨c0, c1⟩ := id k2
  go_wp2_with fail
  refine (ex_table _).mono ?_
  rintro e w3 ⟨rfl, hb3⟩
  have k3 := k2.keep hb3
  obtain ⟨hB3, hz3⟩ := belowStep hB2 hz2 hb3
  clear c0 c1
  obtain ⟨c0, c1⟩ := id k3
  go_wp2_with fail
  refine (ex_chunk _).mono ?_
  rintro e w4 ⟨rfl, hb4⟩
  obtain ⟨hB4, hz4⟩ := belowStep hB3 hz3 hb4
  go_wp2_with fail
  go_ret
  exact ⟨rfl, hB4⟩

end Go.Proofs.Ytalplklaepbaeaa
