/-
  Part of the proof of SoundTells,SoundGiven.
-/
import Derived.Test.YtdmmbnnejbmdpaaGreatDoorVu918
import Derived.Test.YtdmmbnnejbmdpaaGreatDoorVu920
import Derived.Test.YtdmmbnnejbmdpaaGreatDoorVu90
set_option linter.unusedVariables false
set_option linter.unusedSimpArgs false
namespace Go.Proofs.YtdmmbnnejbmdpaaGreatDoor
open Go.RowKit
def Lw (w : World) : Prop := Deb w ∧ 6 < w.heap.size ∧ Tab w ∧ 5 < w.heap.size ∧ Pl w
theorem Lw.keep {w w1 : World} (h : Lw w) (hb : Below w.heap.size w w1) : Lw w1 :=
 ⟨h.1.keep hb h.2.1, Nat.lt_of_lt_of_le h.2.1 hb.size, tab_keep h.2.2.1 h.2.2.2.1 hb, Nat.lt_of_lt_of_le h.2.2.2.1 hb.size, h.2.2.2.2.keep hb⟩
theorem Lw.alloc {w : World} (h : Lw w) (o : Obj) : Lw (w.alloc o) := h.keep (bZ _ _)
theorem Lw.drew {w : World} (h : Lw w) : Lw w.drew := h
end Go.Proofs.YtdmmbnnejbmdpaaGreatDoor
