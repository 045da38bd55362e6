/-
  Package index: an index at work stays, whatever else changes.
-/
import Derived.Test.YtnjifmecaeagaaaDoorQF
set_option linter.unusedVariables false
set_option linter.unusedSimpArgs false
namespace Go.Proofs.YtnjifmecaeagaaaDoor
open Go.Lib Go.RowKit Go.ChangeShapes Go.WideShapes Go.Deep
theorem Sess.other2 {F : Nat → Prop} {w0 w w1 : World} {B n : Nat} {v : Value} {S : List St} (h : Sess w0 w B v S) (hw : Lw w0) (hc : Chg F w w1) (hF : ∀ k, F k → n ≤ k) (hn : w0.heap.size ≤ n) (hB : B < n) (hv : ∀ k, v.ownBlock = some k → k < n) : Sess w0 w1 B v S := by
  have hb : Below w0.heap.size w w1 := hc.below (fun k q => Nat.le_trans hn (hF k q)) h.bel.size
  exact ⟨h.ix.chg hc (fun q => by have := hF _ q; omega) (fun k q f => by have := hF _ f; have := hv k q; omega), h.ok, h.len, hw.keep (h.bel.trans hb), h.bel.trans hb⟩
end Go.Proofs.YtnjifmecaeagaaaDoor
