/-
  Package oid: OidUnlike, case by case.
-/
import Derived.Test.YtdblioggncnapaaDoorOd9
set_option linter.unusedVariables false
set_option linter.unusedSimpArgs false
set_option maxRecDepth 100000
namespace Go.Proofs.YtdblioggncnapaaDoor
open Go.RowKit Go.Lib
/-- four parameters' blocks, the table, and what was there before -/
def Q4 (w w' : World) (B0 B1 B2 B3 : Nat) (a0 a1 a2 b0 b1 b2 h0 h1 h2 k0 k1 k2 : Int) : Prop :=
  C3 w' B0 (.int .i64 a0) (.int .i64 a1) (.int .u64 a2) ∧ C3 w' B1 (.int .i64 b0) (.int .i64 b1) (.int .u64 b2) ∧ C3 w' B2 (.int .i64 h0) (.int .i64 h1) (.int .u64 h2) ∧ C3 w' B3 (.int .i64 k0) (.int .i64 k1) (.int .u64 k2) ∧ Tb w' ∧ Below w.heap.size w w' ∧ w.heap.size ≤ w'.heap.size
theorem Q4.keep {w w1 w2 : World} {B0 B1 B2 B3 : Nat} {a0 a1 a2 b0 b1 b2 h0 h1 h2 k0 k1 k2 : Int} (h : Q4 w w1 B0 B1 B2 B3 a0 a1 a2 b0 b1 b2 h0 h1 h2 k0 k1 k2) (hb : Below w1.heap.size w1 w2) : Q4 w w2 B0 B1 B2 B3 a0 a1 a2 b0 b1 b2 h0 h1 h2 k0 k1 k2 := by
  obtain ⟨q0, q1, q2, q3, qT, qB, qS⟩ := h
  exact ⟨q0.keep hb, q1.keep hb, q2.keep hb, q3.keep hb, qT.next hb, qB.trans (hb.mono qS), Nat.le_trans qS hb.size⟩
theorem Q4.drew {w w1 : World} {B0 B1 B2 B3 : Nat} {a0 a1 a2 b0 b1 b2 h0 h1 h2 k0 k1 k2 : Int} (h : Q4 w w1 B0 B1 B2 B3 a0 a1 a2 b0 b1 b2 h0 h1 h2 k0 k1 k2) : Q4 w w1.drew B0 B1 B2 B3 a0 a1 a2 b0 b1 b2 h0 h1 h2 k0 k1 k2 :=
  ⟨h.1, h.2.1, h.2.2.1, h.2.2.2.1, h.2.2.2.2.1, h.2.2.2.2.2.1.drew, h.2.2.2.2.2.2⟩

theorem ba_ne {X Y : ByteArray} (h : ¬ X = Y) : (X.toList == Y.toList) = false := by
  refine beq_eq_false_iff_ne.2 fun e => h ?_
  rw [Lib.toList_data, Lib.toList_data] at e
  exact ByteArray.ext (Array.ext' e)
end Go.Proofs.YtdblioggncnapaaDoor
