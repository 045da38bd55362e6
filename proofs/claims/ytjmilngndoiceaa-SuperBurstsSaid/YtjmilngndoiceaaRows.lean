/-
  No cell of these rows narrows 'for every input' (looked for: loops, veiled, ifaces, maps, wideKeys, modest, calm, conditions, laid).
  DERIVED. THE GIVEN ROWS OF THIS SEAT. 5 by the template 'for every input the law returns true; each argument reads behind the call as it read before'; 0 by the template 'total and deterministic' (their statements: YtjmilngndoiceaaTotals.lean).
  GIVEN WITH THE SEED: the statements are not yours to turn. If you find one false, say at which input.
  Laid BY PROGRAM, IN A SANDBOX (cutbox-rows.mjs): the forced cells as the released guide's own fill.sh prints them over the translation 40e2aa6b9fc00b82… (all of the seat's roots in one cut). By AI agents, Wed Nov 11 2026. No macro, syntax, notation, axiom, sorry.
-/
import Derived.Test.YtjmilngndoiceaaChecked
import GoSem.Claim
import GoSem.ClaimJoined
import GoSem.ClaimMapViews
import Derived.JoinedTies
import Derived.KernelRfl
namespace Go.Proofs.Ytjmilngndoiceaa
/- THE CELL 'sum', in the pinned program and in every row, IS THE sha256 OF THE DUMP (.gsa) THAT YtjmilngndoiceaaProg.lean LOADS. Nothing in Lean hashes anything: it is a label: what it is worth is what the hold of that sum in a sandbox is worth. -/
noncomputable def Try.pinned : Pinned := { name := "ytjmilngndoiceaa", sum := "40e2aa6b9fc00b824c72d976644b5405c87df5c4abd62f9565097dbb09db11a4", checked := Try.checked }
namespace Rows
def none {H : Type} : Left H := { results := [], args := [] }

/-- 'lockfastlaw06.SuperEncodes': WHATEVER THE INPUT: true; the input reads as it did. -/
def superEncodesSpec : ChangeSpec := { name := "superEncodes", fn := fun _ => fun
  | [d] => { results := [.lit (.bool true)], args := [d] }
  | _ => none }
def superEncodesRow : OpenClaim := { program := "ytjmilngndoiceaa", sum := "40e2aa6b9fc00b824c72d976644b5405c87df5c4abd62f9565097dbb09db11a4", func := "lockfast/lockfastlaw06.SuperEncodes", spec := "superEncodes", unfollowed := true, recurses := true, apart := false }
def SuperEncodesSaid : Prop := superEncodesRow.holds Try.pinned (OpenSpec.ofChange superEncodesSpec)

/-- ITS FALSE NEIGHBOUR: 'it returns false'. Refute it at one input. -/
def superEncodesWrong : ChangeSpec := { name := "superEncodes", fn := fun _ => fun
  | [d] => { results := [.lit (.bool false)], args := [d] }
  | _ => none }
def SuperEncodesWrongFalsely : Prop := superEncodesRow.holds Try.pinned (OpenSpec.ofChange superEncodesWrong)

/-- 'lockfastlaw06.SuperDecodes': WHATEVER THE INPUT: true; the input reads as it did. -/
def superDecodesSpec : ChangeSpec := { name := "superDecodes", fn := fun _ => fun
  | [d1, d2] => { results := [.lit (.bool true)], args := [d1, d2] }
  | _ => none }
def superDecodesRow : OpenClaim := { program := "ytjmilngndoiceaa", sum := "40e2aa6b9fc00b824c72d976644b5405c87df5c4abd62f9565097dbb09db11a4", func := "lockfast/lockfastlaw06.SuperDecodes", spec := "superDecodes", unfollowed := true, recurses := true, apart := false }
def SuperDecodesSaid : Prop := superDecodesRow.holds Try.pinned (OpenSpec.ofChange superDecodesSpec)

/-- ITS FALSE NEIGHBOUR: 'it returns false'. Refute it at one input. -/
def superDecodesWrong : ChangeSpec := { name := "superDecodes", fn := fun _ => fun
  | [d1, d2] => { results := [.lit (.bool false)], args := [d1, d2] }
  | _ => none }
def SuperDecodesWrongFalsely : Prop := superDecodesRow.holds Try.pinned (OpenSpec.ofChange superDecodesWrong)

/-- 'lockfastlaw06.SuperBack': WHATEVER THE INPUT: true; the input reads as it did. -/
def superBackSpec : ChangeSpec := { name := "superBack", fn := fun _ => fun
  | [d1, d2, d3, d4, d5] => { results := [.lit (.bool true)], args := [d1, d2, d3, d4, d5] }
  | _ => none }
def superBackRow : OpenClaim := { program := "ytjmilngndoiceaa", sum := "40e2aa6b9fc00b824c72d976644b5405c87df5c4abd62f9565097dbb09db11a4", func := "lockfast/lockfastlaw06.SuperBack", spec := "superBack", unfollowed := true, recurses := true, apart := false }
def SuperBackSaid : Prop := superBackRow.holds Try.pinned (OpenSpec.ofChange superBackSpec)

/-- ITS FALSE NEIGHBOUR: 'it returns false'. Refute it at one input. -/
def superBackWrong : ChangeSpec := { name := "superBack", fn := fun _ => fun
  | [d1, d2, d3, d4, d5] => { results := [.lit (.bool false)], args := [d1, d2, d3, d4, d5] }
  | _ => none }
def SuperBackWrongFalsely : Prop := superBackRow.holds Try.pinned (OpenSpec.ofChange superBackWrong)

/-- 'lockfastlaw06.SuperBursts': WHATEVER THE INPUT: true; the input reads as it did. -/
def superBurstsSpec : ChangeSpec := { name := "superBursts", fn := fun _ => fun
  | [d1, d2, d3, d4, d5] => { results := [.lit (.bool true)], args := [d1, d2, d3, d4, d5] }
  | _ => none }
def superBurstsRow : OpenClaim := { program := "ytjmilngndoiceaa", sum := "40e2aa6b9fc00b824c72d976644b5405c87df5c4abd62f9565097dbb09db11a4", func := "lockfast/lockfastlaw06.SuperBursts", spec := "superBursts", unfollowed := true, recurses := true, apart := false }
def SuperBurstsSaid : Prop := superBurstsRow.holds Try.pinned (OpenSpec.ofChange superBurstsSpec)

/-- ITS FALSE NEIGHBOUR: 'it returns false'. Refute it at one input. -/
def superBurstsWrong : ChangeSpec := { name := "superBursts", fn := fun _ => fun
  | [d1, d2, d3, d4, d5] => { results := [.lit (.bool false)], args := [d1, d2, d3, d4, d5] }
  | _ => none }
def SuperBurstsWrongFalsely : Prop := superBurstsRow.holds Try.pinned (OpenSpec.ofChange superBurstsWrong)

/-- 'lockfastlaw06.SuperUnlike': WHATEVER THE INPUT: true; the input reads as it did. -/
def superUnlikeSpec : ChangeSpec := { name := "superUnlike", fn := fun _ => fun
  | [d1, d2, d3, d4, d5, d6] => { results := [.lit (.bool true)], args := [d1, d2, d3, d4, d5, d6] }
  | _ => none }
def superUnlikeRow : OpenClaim := { program := "ytjmilngndoiceaa", sum := "40e2aa6b9fc00b824c72d976644b5405c87df5c4abd62f9565097dbb09db11a4", func := "lockfast/lockfastlaw06.SuperUnlike", spec := "superUnlike", unfollowed := true, recurses := true, apart := false }
def SuperUnlikeSaid : Prop := superUnlikeRow.holds Try.pinned (OpenSpec.ofChange superUnlikeSpec)

/-- ITS FALSE NEIGHBOUR: 'it returns false'. Refute it at one input. -/
def superUnlikeWrong : ChangeSpec := { name := "superUnlike", fn := fun _ => fun
  | [d1, d2, d3, d4, d5, d6] => { results := [.lit (.bool false)], args := [d1, d2, d3, d4, d5, d6] }
  | _ => none }
def SuperUnlikeWrongFalsely : Prop := superUnlikeRow.holds Try.pinned (OpenSpec.ofChange superUnlikeWrong)

/- THE SECOND FORM. 'bulk': how many values and letters a reading holds, each counted each time it is reached (what is shared counts as often as it is met; a slice's spare places count too). A statement '..UptoSaid' is the law's where the arguments, and the package variables that the reading takes, are together of bulk at most 1048576: NARROWER than '..Said'. Prove '..Said' where nothing that the law and all that it calls make is longer than what came in: it says more and counts as full. Else prove '..UptoSaid'. A law counts once. -/
mutual
def uptoBulk {H : Type} : DataW H → Nat
  | .lit (.string bytes) => bytes.length + 1
  | .lit _ => 1
  | .nil => 1
  | .ptr d => uptoBulk d + 1
  | .slice elems spare => uptoBulkAll elems + uptoBulkAll spare + 1
  | .agg parts => uptoBulkAll parts + 1
  | .iface _ d => uptoBulk d + 1
  | .map entries => uptoBulkEntries entries + 1
  | .held _ => 1
def uptoBulkAll {H : Type} : List (DataW H) → Nat
  | [] => 0
  | d :: r => uptoBulk d + uptoBulkAll r
def uptoBulkEntries {H : Type} : List (Lit × DataW H) → Nat
  | [] => 0
  | x :: r => uptoBulkEntry x + uptoBulkEntries r
def uptoBulkEntry {H : Type} : Lit × DataW H → Nat
  | (.string bytes, d) => bytes.length + uptoBulk d + 1
  | (_, d) => uptoBulk d + 1
 end
def uptoSmall : (H : Type) → List (DataW H) → Bool := fun _ ds => decide (uptoBulkAll ds ≤ 1048576)
def OpenSpec.upto (s : _root_.Go.ChangeSpec) : _root_.Go.OpenSpec := { _root_.Go.OpenSpec.ofChange s with cond := some uptoSmall }

/-- 'lockfastlaw06.SuperEncodes', WHERE WHAT IT READS IS OF BULK AT MOST 1048576: true; the input reads as it did. -/
def superEncodesUptoRow : OpenClaim := { program := "ytjmilngndoiceaa", sum := "40e2aa6b9fc00b824c72d976644b5405c87df5c4abd62f9565097dbb09db11a4", func := "lockfast/lockfastlaw06.SuperEncodes", spec := "superEncodes", unfollowed := true, recurses := true, apart := false, narrowed := true }
def SuperEncodesUptoSaid : Prop := superEncodesUptoRow.holds Try.pinned (OpenSpec.upto superEncodesSpec)

/-- 'lockfastlaw06.SuperDecodes', WHERE WHAT IT READS IS OF BULK AT MOST 1048576: true; the input reads as it did. -/
def superDecodesUptoRow : OpenClaim := { program := "ytjmilngndoiceaa", sum := "40e2aa6b9fc00b824c72d976644b5405c87df5c4abd62f9565097dbb09db11a4", func := "lockfast/lockfastlaw06.SuperDecodes", spec := "superDecodes", unfollowed := true, recurses := true, apart := false, narrowed := true }
def SuperDecodesUptoSaid : Prop := superDecodesUptoRow.holds Try.pinned (OpenSpec.upto superDecodesSpec)

/-- 'lockfastlaw06.SuperBack', WHERE WHAT IT READS IS OF BULK AT MOST 1048576: true; the input reads as it did. -/
def superBackUptoRow : OpenClaim := { program := "ytjmilngndoiceaa", sum := "40e2aa6b9fc00b824c72d976644b5405c87df5c4abd62f9565097dbb09db11a4", func := "lockfast/lockfastlaw06.SuperBack", spec := "superBack", unfollowed := true, recurses := true, apart := false, narrowed := true }
def SuperBackUptoSaid : Prop := superBackUptoRow.holds Try.pinned (OpenSpec.upto superBackSpec)

/-- 'lockfastlaw06.SuperBursts', WHERE WHAT IT READS IS OF BULK AT MOST 1048576: true; the input reads as it did. -/
def superBurstsUptoRow : OpenClaim := { program := "ytjmilngndoiceaa", sum := "40e2aa6b9fc00b824c72d976644b5405c87df5c4abd62f9565097dbb09db11a4", func := "lockfast/lockfastlaw06.SuperBursts", spec := "superBursts", unfollowed := true, recurses := true, apart := false, narrowed := true }
def SuperBurstsUptoSaid : Prop := superBurstsUptoRow.holds Try.pinned (OpenSpec.upto superBurstsSpec)

/-- 'lockfastlaw06.SuperUnlike', WHERE WHAT IT READS IS OF BULK AT MOST 1048576: true; the input reads as it did. -/
def superUnlikeUptoRow : OpenClaim := { program := "ytjmilngndoiceaa", sum := "40e2aa6b9fc00b824c72d976644b5405c87df5c4abd62f9565097dbb09db11a4", func := "lockfast/lockfastlaw06.SuperUnlike", spec := "superUnlike", unfollowed := true, recurses := true, apart := false, narrowed := true }
def SuperUnlikeUptoSaid : Prop := superUnlikeUptoRow.holds Try.pinned (OpenSpec.upto superUnlikeSpec)

end Rows
end Go.Proofs.Ytjmilngndoiceaa
