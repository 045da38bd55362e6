/-
  The laws of package seal: SealHalves, SealTells, SealParts.
-/
import Derived.Test.YtkmfncnfpneekaaUSeal5
set_option linter.unusedVariables false
namespace Go.Proofs.Ytkmfncnfpneekaa
open Go.RowKit

theorem SL.form {w : World} {v : Value} {l : List Nat} (h : SL w v l) : ∃ sp cap, v = .slice sp l.length cap := by
  rcases h with ⟨rfl, sp, cap, rfl⟩ | ⟨g, off, cap, rfl, _⟩
  · exact ⟨_, _, rfl⟩
  · exact ⟨_, _, rfl⟩

end Go.Proofs.Ytkmfncnfpneekaa
