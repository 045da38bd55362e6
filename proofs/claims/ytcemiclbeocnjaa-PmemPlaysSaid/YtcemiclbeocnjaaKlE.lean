/-
  A list of numbers in memory, read as a list of anything: for the bound on its length.
-/
import Derived.Test.YtcemiclbeocnjaaGw
set_option linter.unusedVariables false
namespace Go.Proofs.Ytcemiclbeocnjaa
open Go.RowKit
theorem kl_el {K : IntKind} {w : World} {v : Value} {l : List Nat} (h : KL K w v l) : EL 0 (fun _ : Nat => []) w v l := by
  obtain ⟨A, cap, hv, h⟩ := h
  refine ⟨A, cap, hv, fun hl => ?_⟩
  obtain ⟨g, off, hA, hg, hc, _⟩ := h hl
  exact ⟨g, off, hA, hg, hc, fun i _ j hj => absurd hj (Nat.not_lt_zero _)⟩
end Go.Proofs.Ytcemiclbeocnjaa
