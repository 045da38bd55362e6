/-
  What the calls of package geo answer: contracts on the calls (3).
-/
import Derived.Test.YtjmilngndoiceaaUGeo2
namespace Go.Proofs.Ytjmilngndoiceaa
open Go.RowKit

theorem ret_ii {a b c d : Int} (h : a = b) (h' : c = d) : Ending.returned (.tuple #[.int .i64 a, .int .i64 c]) = .returned (.tuple #[.int .i64 b, .int .i64 d]) := by rw [h, h']
theorem ret_g {a b c d : Int} (h : a = b) (h' : c = d) : Ending.returned (.agg #[.int .i64 a, .int .i64 c]) = .returned (.agg #[.int .i64 b, .int .i64 d]) := by rw [h, h']
theorem field1 (x y : Int) (w : World) : (Instr.field 49 (.agg #[.int .i64 x, .int .i64 y]) 1).run Try.prog w = .ok (.int .i64 y) w := by kernel_rfl
theorem field0 (x y : Int) (w : World) : (Instr.field 49 (.agg #[.int .i64 x, .int .i64 y]) 0).run Try.prog w = .ok (.int .i64 x) w := by kernel_rfl

set_option maxHeartbeats 400000 in
theorem chunks_t (W L : Int) (w : World) (h : gOk W L = true) :
    Calls Try.prog 18 #[.agg #[.int .i64 W, .int .i64 L]] w fun e w' => e = .returned (.int .i64 (gN W L)) ∧ Below w.heap.size w w' := by
  have H := Lib.hid h
  clear h
  have hfd := field1
  go_enter Try.func18, Try.ntmps18
  go_wp2_with fail
  refine (table_t W L _ H.out).mono ?_
  rintro e w1 ⟨rfl, hb⟩
  go_wp2_with fail
  go_ret
  exact ⟨rfl, ((Below.refl _ _).alloc (Nat.le_refl _) _).trans (hb.mono (by simp))⟩

set_option maxHeartbeats 400000 in
theorem chunks_f (W L : Int) (w : World) (h : gOk W L = false) :
    Calls Try.prog 18 #[.agg #[.int .i64 W, .int .i64 L]] w fun e w' => e = .returned (.int .i64 (0)) ∧ Below w.heap.size w w' := by
  have H := Lib.hid h
  clear h
  have hfd := field1
  go_enter Try.func18, Try.ntmps18
  go_wp2_with fail
  refine (table_f W L _ H.out).mono ?_
  rintro e w1 ⟨rfl, hb⟩
  go_wp2_with fail
  go_ret
  exact ⟨rfl, ((Below.refl _ _).alloc (Nat.le_refl _) _).trans (hb.mono (by simp))⟩

/-- a chunk that there is: its span -/
def cFrom (W L i : Int) : Int := 10 + 73 * L + gN W L + i * 32

end Go.Proofs.Ytjmilngndoiceaa
