/-
  What the calls of package geo answer: contracts on the calls (4).
-/
import Derived.Test.YtjmilngndoiceaaUGeo3
namespace Go.Proofs.Ytjmilngndoiceaa
open Go.RowKit

/-- a lane that there is -/
def lOk (W L i : Int) : Bool := gOk W L && decide (0 ≤ i ∧ i < L)
theorem lOk_t {W L i : Int} (h : lOk W L i = true) : gOk W L = true ∧ 0 ≤ i ∧ i < L := by
  simp only [lOk, Bool.and_eq_true, decide_eq_true_eq] at h; exact h
theorem lOk_f {W L i : Int} (h : lOk W L i = false) : gOk W L = false ∨ (gOk W L = true ∧ i < 0) ∨ (gOk W L = true ∧ 0 ≤ i ∧ L ≤ i) := by
  cases hg : gOk W L
  · exact .inl rfl
  · refine .inr ?_
    simp only [lOk, hg, Bool.true_and, decide_eq_false_iff_not] at h
    by_cases hi : i < 0
    · exact .inl ⟨rfl, hi⟩
    · exact .inr ⟨rfl, by omega, by omega⟩
/-- a captured number -/
def Cap (w : World) (b : Nat) (x : Value) : Prop := w.cell? ⟨b, 0, none⟩ = some x
end Go.Proofs.Ytjmilngndoiceaa
