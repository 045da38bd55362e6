/-
  Part of the proof of JournalSaves.
-/
import Derived.Test.YtkkbngcgphlikaaGreatDoorJv1
import Derived.Test.YtkkbngcgphlikaaGreatDoorJv10
import Derived.Test.YtkkbngcgphlikaaGreatDoorJv11
import Derived.Test.YtkkbngcgphlikaaGreatDoorJv15
import Derived.Test.YtkkbngcgphlikaaGreatDoorJv16
import Derived.Test.YtkkbngcgphlikaaGreatDoorJv17
import Derived.Test.YtkkbngcgphlikaaGreatDoorJv2
import Derived.Test.YtkkbngcgphlikaaGreatDoorJv20
import Derived.Test.YtkkbngcgphlikaaGreatDoorJv3
import Derived.Test.YtkkbngcgphlikaaGreatDoorJv35
import Derived.Test.YtkkbngcgphlikaaGreatDoorJv4
import Derived.Test.YtkkbngcgphlikaaGreatDoorJv6
import Derived.Test.YtkkbngcgphlikaaGreatDoorJv7
import Derived.Test.YtkkbngcgphlikaaGreatDoorJv8
import Derived.Test.YtkkbngcgphlikaaGreatDoorJv9
import Derived.Test.YtkkbngcgphlikaaGreatDoorRows
import Derived.BigQuiet
import Derived.Carry
import Derived.ChangeSlices
import Derived.Deep.QuietTactic
import Derived.Deep.RegionHeld3
import Derived.Deep.SlicePairs
import Derived.Handy
import Derived.Laws.BitsAllLaws
import Derived.Laws.CopyOwn
import Derived.Laws.EntriesVeiled
import Derived.Laws.ShiftsVarLaws
import Derived.Lib.AppendZerosOnto
import Derived.Lib.Hide
import Derived.Lib.SliceRun
import Derived.LoopIn
import Derived.LoopNIn
import Derived.Maps.AppendAt
import Derived.OpenShut
import Derived.OwnWalk
import Derived.OwnWalkIn
import Derived.ProofKit
import Derived.RangeFuncBound
import Derived.RangeFuncBox
import Derived.RangeFuncCalls
import Derived.RangeFuncFrom
import Derived.RangeFuncLeaves
import Derived.RangeFuncNested
import Derived.RangeFuncWrites
import Derived.Scope
import Derived.Shelf.Abstract
import Derived.Shelf.RegionOpen
import Derived.StillTail
import Derived.TacticsInMore
import Derived.WalkKit
import Derived.WalkLawsBesides
import Derived.WalkSpells
import Derived.Laws.OwnMore
import Derived.Test.YtkkbngcgphlikaaGreatDoorJv0
set_option linter.unusedVariables false
set_option linter.unusedSimpArgs false
section
namespace Go.Proofs.YtkkbngcgphlikaaGreatDoor
open Go.Lib Go.RowKit Go.ChangeShapes Go.WideShapes Go.Deep Go.Shelf
def HB (W : World) (b : Nat) (cs : Array Value) (t : TypeId) : Prop := W.heap[b]? = some (.cells cs t (0, 0))
theorem HB.lt {W : World} {b : Nat} {cs : Array Value} {t : TypeId} (h : HB W b cs t) : b < W.heap.size := (Array.getElem?_eq_some_iff.1 h).1
theorem HB.keep {w w1 : World} {b : Nat} {cs : Array Value} {t : TypeId} (h : HB w b cs t) (hb : Below w.heap.size w w1) : HB w1 b cs t := (hb.block b h.lt).trans h
theorem HB.new (w : World) (cs : Array Value) (t : TypeId) : HB (w.alloc (.cells cs t)) w.heap.size cs t := World.alloc_heap_new w _
theorem HB.walk {w w1 : World} {b : Nat} {cs : Array Value} {t : TypeId} {row : Option Nat} (h : HB w b cs t) (hg : w.grownBy w1 row) (hr : ∀ r, row = some r → ∃ o : Obj, w.heap[r]? = some o ∧ o.isCells = false) : HB w1 b cs t :=
 (hg.block b h.lt (fun e => by
   obtain ⟨o, ho, hc⟩ := hr b e.symm
   rw [show w.heap[b]? = _ from h] at ho; cases ho; cases hc)).trans h
theorem HB.c2 {w : World} {b : Nat} {x y : Value} {t : TypeId} (h : HB w b #[x, y] t) : C2 w b x y := ⟨(row_cell h 0).1, (row_cell h 1).1⟩
end Go.Proofs.YtkkbngcgphlikaaGreatDoor
end
section
namespace Go.Proofs.YtkkbngcgphlikaaGreatDoor
open Go.Lib Go.RowKit Go.ChangeShapes Go.WideShapes Go.Deep Go.Shelf
attribute [local go_sem] Oper.semAt_some
def noPan (Q : Exit → Act → World → Prop) : Exit → Act → World → Prop
 | .panic _, _, _ => False
 | e, a, w => Q e a w
theorem noPan_ret (Q : Exit → Act → World → Prop) (a : Act) (w : World) : noPan Q .ret a w = Q .ret a w := rfl
attribute [local go_sem] noPan_ret
end Go.Proofs.YtkkbngcgphlikaaGreatDoor
end
