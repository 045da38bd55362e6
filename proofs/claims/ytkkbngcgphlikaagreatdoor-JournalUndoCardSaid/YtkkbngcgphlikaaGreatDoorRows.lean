/-
  NARROWER THAN 'FOR EVERY INPUT', by the rows' own cells (each row's printed sentence says how): JournalUndo: laid · JournalRedo: laid · JournalGrows: laid · JournalHeals: laid · JournalSteps: laid · JournalSaves: laid.
  DERIVED. THE GIVEN ROWS OF THIS SEAT. 6 by the template 'for every input the law returns true; each argument reads behind the call as it read before'; 0 by the template 'total and deterministic' (their statements: YtkkbngcgphlikaaGreatDoorTotals.lean).
  GIVEN WITH THE SEED: the statements are not yours to turn. If you find one false, say at which input.
  Laid BY PROGRAM, IN A SANDBOX (cutbox-rows.mjs): the forced cells as the released guide's own fill.sh prints them over the translation cda038d9f7b546b4… (all of the seat's roots in one cut). By AI agents, Wed Nov 11 2026. No macro, syntax, notation, axiom, sorry.
-/
import Derived.Test.YtkkbngcgphlikaaGreatDoorChecked
import GoSem.Claim
import GoSem.ClaimJoined
import GoSem.ClaimMapViews
import Derived.JoinedTies
import Derived.KernelRfl
namespace Go.Proofs.YtkkbngcgphlikaaGreatDoor
/- THE CELL 'sum', in the pinned program and in every row, IS THE sha256 OF THE DUMP (.gsa) THAT YtkkbngcgphlikaaGreatDoorProg.lean LOADS. Nothing in Lean hashes anything: it is a label: what it is worth is what the hold of that sum in a sandbox is worth. -/
noncomputable def Tryz.pinned : Pinned := { name := "ytkkbngcgphlikaagreatdoor", sum := "cda038d9f7b546b48cd63a0f84cd700b6f78f6f823000be0f3ca3e926f0fbefb", checked := Tryz.checked }
namespace Rows
def none {H : Type} : Left H := { results := [], args := [] }

/- WHAT THE LISTED PACKAGE-LEVEL VARIABLES READ AS WHEN THE CALL BEGINS. Each datum BY PROGRAM (the guide's laid-datum.mjs) off the statement by which the dump's own 'gosem.cut.vars' lays the variable. In a bare row this is a premise. The card (YtkkbngcgphlikaaGreatDoorCards.lean) ties it to the program's text. -/
def laid_lockfast_class_blocks {H : Type} : DataW H := .agg [.lit (.int .i64 4), .lit (.int .i64 8), .lit (.int .i64 16)]
def laid_lockfast_chunk_kindPlace {H : Type} : DataW H := .agg [.lit (.int .i64 0), .lit (.int .i64 3)]
def laid_lockfast_chunk_classPlace {H : Type} : DataW H := .agg [.lit (.int .i64 3), .lit (.int .i64 2)]
def laid_lockfast_chunk_lanePlace {H : Type} : DataW H := .agg [.lit (.int .i64 5), .lit (.int .i64 6)]
def laid_lockfast_chunk_manyPlace {H : Type} : DataW H := .agg [.lit (.int .i64 11), .lit (.int .i64 13)]
def laid_lockfast_chunk_bitsPlace {H : Type} : DataW H := .agg [.lit (.int .i64 24), .lit (.int .i64 8)]

/-- 'lockfastlaw19.JournalUndo': WHATEVER THE INPUT: true; the input reads as it did. -/
def journalUndoSpec : ChangeSpec := { name := "journalUndo", fn := fun _ => fun
  | [d1, d2, d3, d4, d5] => { results := [.lit (.bool true)], args := [d1, d2, d3, d4, d5] }
  | _ => none }
def journalUndoRow : OpenClaim := { program := "ytkkbngcgphlikaagreatdoor", sum := "cda038d9f7b546b48cd63a0f84cd700b6f78f6f823000be0f3ca3e926f0fbefb", func := "lockfast/lockfastlaw19.JournalUndo", spec := "journalUndo", unfollowed := true, recurses := true, named := ["lockfast/chunk.kindPlace", "lockfast/chunk.classPlace", "lockfast/chunk.lanePlace", "lockfast/chunk.manyPlace", "lockfast/chunk.bitsPlace", "lockfast/class.blocks"], apart := false, laid := [("lockfast/class.blocks", laid_lockfast_class_blocks), ("lockfast/chunk.kindPlace", laid_lockfast_chunk_kindPlace), ("lockfast/chunk.classPlace", laid_lockfast_chunk_classPlace), ("lockfast/chunk.lanePlace", laid_lockfast_chunk_lanePlace), ("lockfast/chunk.manyPlace", laid_lockfast_chunk_manyPlace), ("lockfast/chunk.bitsPlace", laid_lockfast_chunk_bitsPlace)] }
def JournalUndoSaid : Prop := journalUndoRow.holds Tryz.pinned (OpenSpec.ofChange journalUndoSpec)

/-- ITS FALSE NEIGHBOUR: 'it returns false'. Refute it at one input. -/
def journalUndoWrong : ChangeSpec := { name := "journalUndo", fn := fun _ => fun
  | [d1, d2, d3, d4, d5] => { results := [.lit (.bool false)], args := [d1, d2, d3, d4, d5] }
  | _ => none }
def JournalUndoWrongFalsely : Prop := journalUndoRow.holds Tryz.pinned (OpenSpec.ofChange journalUndoWrong)

/-- 'lockfastlaw19.JournalRedo': WHATEVER THE INPUT: true; the input reads as it did. -/
def journalRedoSpec : ChangeSpec := { name := "journalRedo", fn := fun _ => fun
  | [d1, d2, d3, d4, d5] => { results := [.lit (.bool true)], args := [d1, d2, d3, d4, d5] }
  | _ => none }
def journalRedoRow : OpenClaim := { program := "ytkkbngcgphlikaagreatdoor", sum := "cda038d9f7b546b48cd63a0f84cd700b6f78f6f823000be0f3ca3e926f0fbefb", func := "lockfast/lockfastlaw19.JournalRedo", spec := "journalRedo", unfollowed := true, recurses := true, named := ["lockfast/chunk.kindPlace", "lockfast/chunk.classPlace", "lockfast/chunk.lanePlace", "lockfast/chunk.manyPlace", "lockfast/chunk.bitsPlace", "lockfast/class.blocks"], apart := false, laid := [("lockfast/class.blocks", laid_lockfast_class_blocks), ("lockfast/chunk.kindPlace", laid_lockfast_chunk_kindPlace), ("lockfast/chunk.classPlace", laid_lockfast_chunk_classPlace), ("lockfast/chunk.lanePlace", laid_lockfast_chunk_lanePlace), ("lockfast/chunk.manyPlace", laid_lockfast_chunk_manyPlace), ("lockfast/chunk.bitsPlace", laid_lockfast_chunk_bitsPlace)] }
def JournalRedoSaid : Prop := journalRedoRow.holds Tryz.pinned (OpenSpec.ofChange journalRedoSpec)

/-- ITS FALSE NEIGHBOUR: 'it returns false'. Refute it at one input. -/
def journalRedoWrong : ChangeSpec := { name := "journalRedo", fn := fun _ => fun
  | [d1, d2, d3, d4, d5] => { results := [.lit (.bool false)], args := [d1, d2, d3, d4, d5] }
  | _ => none }
def JournalRedoWrongFalsely : Prop := journalRedoRow.holds Tryz.pinned (OpenSpec.ofChange journalRedoWrong)

/-- 'lockfastlaw19.JournalGrows': WHATEVER THE INPUT: true; the input reads as it did. -/
def journalGrowsSpec : ChangeSpec := { name := "journalGrows", fn := fun _ => fun
  | [d1, d2, d3, d4, d5, d6] => { results := [.lit (.bool true)], args := [d1, d2, d3, d4, d5, d6] }
  | _ => none }
def journalGrowsRow : OpenClaim := { program := "ytkkbngcgphlikaagreatdoor", sum := "cda038d9f7b546b48cd63a0f84cd700b6f78f6f823000be0f3ca3e926f0fbefb", func := "lockfast/lockfastlaw19.JournalGrows", spec := "journalGrows", unfollowed := true, recurses := true, named := ["lockfast/chunk.kindPlace", "lockfast/chunk.classPlace", "lockfast/chunk.lanePlace", "lockfast/chunk.manyPlace", "lockfast/chunk.bitsPlace", "lockfast/class.blocks"], apart := false, laid := [("lockfast/class.blocks", laid_lockfast_class_blocks), ("lockfast/chunk.kindPlace", laid_lockfast_chunk_kindPlace), ("lockfast/chunk.classPlace", laid_lockfast_chunk_classPlace), ("lockfast/chunk.lanePlace", laid_lockfast_chunk_lanePlace), ("lockfast/chunk.manyPlace", laid_lockfast_chunk_manyPlace), ("lockfast/chunk.bitsPlace", laid_lockfast_chunk_bitsPlace)] }
def JournalGrowsSaid : Prop := journalGrowsRow.holds Tryz.pinned (OpenSpec.ofChange journalGrowsSpec)

/-- ITS FALSE NEIGHBOUR: 'it returns false'. Refute it at one input. -/
def journalGrowsWrong : ChangeSpec := { name := "journalGrows", fn := fun _ => fun
  | [d1, d2, d3, d4, d5, d6] => { results := [.lit (.bool false)], args := [d1, d2, d3, d4, d5, d6] }
  | _ => none }
def JournalGrowsWrongFalsely : Prop := journalGrowsRow.holds Tryz.pinned (OpenSpec.ofChange journalGrowsWrong)

/-- 'lockfastlaw19.JournalHeals': WHATEVER THE INPUT: true; the input reads as it did. -/
def journalHealsSpec : ChangeSpec := { name := "journalHeals", fn := fun _ => fun
  | [d1, d2, d3] => { results := [.lit (.bool true)], args := [d1, d2, d3] }
  | _ => none }
def journalHealsRow : OpenClaim := { program := "ytkkbngcgphlikaagreatdoor", sum := "cda038d9f7b546b48cd63a0f84cd700b6f78f6f823000be0f3ca3e926f0fbefb", func := "lockfast/lockfastlaw19.JournalHeals", spec := "journalHeals", unfollowed := true, recurses := true, named := ["lockfast/chunk.kindPlace", "lockfast/chunk.classPlace", "lockfast/chunk.lanePlace", "lockfast/chunk.manyPlace", "lockfast/chunk.bitsPlace", "lockfast/class.blocks"], apart := false, laid := [("lockfast/class.blocks", laid_lockfast_class_blocks), ("lockfast/chunk.kindPlace", laid_lockfast_chunk_kindPlace), ("lockfast/chunk.classPlace", laid_lockfast_chunk_classPlace), ("lockfast/chunk.lanePlace", laid_lockfast_chunk_lanePlace), ("lockfast/chunk.manyPlace", laid_lockfast_chunk_manyPlace), ("lockfast/chunk.bitsPlace", laid_lockfast_chunk_bitsPlace)] }
def JournalHealsSaid : Prop := journalHealsRow.holds Tryz.pinned (OpenSpec.ofChange journalHealsSpec)

/-- ITS FALSE NEIGHBOUR: 'it returns false'. Refute it at one input. -/
def journalHealsWrong : ChangeSpec := { name := "journalHeals", fn := fun _ => fun
  | [d1, d2, d3] => { results := [.lit (.bool false)], args := [d1, d2, d3] }
  | _ => none }
def JournalHealsWrongFalsely : Prop := journalHealsRow.holds Tryz.pinned (OpenSpec.ofChange journalHealsWrong)

/-- 'lockfastlaw19.JournalSteps': WHATEVER THE INPUT: true; the input reads as it did. -/
def journalStepsSpec : ChangeSpec := { name := "journalSteps", fn := fun _ => fun
  | [d1, d2, d3, d4] => { results := [.lit (.bool true)], args := [d1, d2, d3, d4] }
  | _ => none }
def journalStepsRow : OpenClaim := { program := "ytkkbngcgphlikaagreatdoor", sum := "cda038d9f7b546b48cd63a0f84cd700b6f78f6f823000be0f3ca3e926f0fbefb", func := "lockfast/lockfastlaw19.JournalSteps", spec := "journalSteps", unfollowed := true, recurses := true, named := ["lockfast/chunk.kindPlace", "lockfast/chunk.classPlace", "lockfast/chunk.lanePlace", "lockfast/chunk.manyPlace", "lockfast/chunk.bitsPlace", "lockfast/class.blocks"], apart := false, laid := [("lockfast/class.blocks", laid_lockfast_class_blocks), ("lockfast/chunk.kindPlace", laid_lockfast_chunk_kindPlace), ("lockfast/chunk.classPlace", laid_lockfast_chunk_classPlace), ("lockfast/chunk.lanePlace", laid_lockfast_chunk_lanePlace), ("lockfast/chunk.manyPlace", laid_lockfast_chunk_manyPlace), ("lockfast/chunk.bitsPlace", laid_lockfast_chunk_bitsPlace)] }
def JournalStepsSaid : Prop := journalStepsRow.holds Tryz.pinned (OpenSpec.ofChange journalStepsSpec)

/-- ITS FALSE NEIGHBOUR: 'it returns false'. Refute it at one input. -/
def journalStepsWrong : ChangeSpec := { name := "journalSteps", fn := fun _ => fun
  | [d1, d2, d3, d4] => { results := [.lit (.bool false)], args := [d1, d2, d3, d4] }
  | _ => none }
def JournalStepsWrongFalsely : Prop := journalStepsRow.holds Tryz.pinned (OpenSpec.ofChange journalStepsWrong)

/-- 'lockfastlaw19.JournalSaves': WHATEVER THE INPUT: true; the input reads as it did. -/
def journalSavesSpec : ChangeSpec := { name := "journalSaves", fn := fun _ => fun
  | [d1, d2, d3] => { results := [.lit (.bool true)], args := [d1, d2, d3] }
  | _ => none }
def journalSavesRow : OpenClaim := { program := "ytkkbngcgphlikaagreatdoor", sum := "cda038d9f7b546b48cd63a0f84cd700b6f78f6f823000be0f3ca3e926f0fbefb", func := "lockfast/lockfastlaw19.JournalSaves", spec := "journalSaves", unfollowed := true, recurses := true, named := ["lockfast/chunk.kindPlace", "lockfast/chunk.classPlace", "lockfast/chunk.lanePlace", "lockfast/chunk.manyPlace", "lockfast/chunk.bitsPlace", "lockfast/class.blocks"], apart := false, laid := [("lockfast/class.blocks", laid_lockfast_class_blocks), ("lockfast/chunk.kindPlace", laid_lockfast_chunk_kindPlace), ("lockfast/chunk.classPlace", laid_lockfast_chunk_classPlace), ("lockfast/chunk.lanePlace", laid_lockfast_chunk_lanePlace), ("lockfast/chunk.manyPlace", laid_lockfast_chunk_manyPlace), ("lockfast/chunk.bitsPlace", laid_lockfast_chunk_bitsPlace)] }
def JournalSavesSaid : Prop := journalSavesRow.holds Tryz.pinned (OpenSpec.ofChange journalSavesSpec)

/-- ITS FALSE NEIGHBOUR: 'it returns false'. Refute it at one input. -/
def journalSavesWrong : ChangeSpec := { name := "journalSaves", fn := fun _ => fun
  | [d1, d2, d3] => { results := [.lit (.bool false)], args := [d1, d2, d3] }
  | _ => none }
def JournalSavesWrongFalsely : Prop := journalSavesRow.holds Tryz.pinned (OpenSpec.ofChange journalSavesWrong)

/- THE SECOND FORM. 'bulk': how many values and letters a reading holds, each counted each time it is reached (what is shared counts as often as it is met; a slice's spare places count too). A statement '..UptoSaid' is the law's where the arguments, and the package variables that the reading takes, are together of bulk at most 1048576: NARROWER than '..Said'. Prove '..Said' where nothing that the law and all that it calls make is longer than what came in: it says more and counts as full. Else prove '..UptoSaid'. A law counts once. -/
mutual
def uptoBulk {H : Type} : DataW H → Nat
  | .lit (.string bytes) => bytes.length + 1
  | .lit _ => 1
  | .nil => 1
  | .ptr d => uptoBulk d + 1
  | .slice elems spare => uptoBulkAll elems + uptoBulkAll spare + 1
  | .agg parts => uptoBulkAll parts + 1
  | .iface _ d => uptoBulk d + 1
  | .map entries => uptoBulkEntries entries + 1
  | .held _ => 1
def uptoBulkAll {H : Type} : List (DataW H) → Nat
  | [] => 0
  | d :: r => uptoBulk d + uptoBulkAll r
def uptoBulkEntries {H : Type} : List (Lit × DataW H) → Nat
  | [] => 0
  | x :: r => uptoBulkEntry x + uptoBulkEntries r
def uptoBulkEntry {H : Type} : Lit × DataW H → Nat
  | (.string bytes, d) => bytes.length + uptoBulk d + 1
  | (_, d) => uptoBulk d + 1
 end
def uptoSmall : (H : Type) → List (DataW H) → Bool := fun _ ds => decide (uptoBulkAll ds ≤ 1048576)
def OpenSpec.upto (s : _root_.Go.ChangeSpec) : _root_.Go.OpenSpec := { _root_.Go.OpenSpec.ofChange s with cond := some uptoSmall }

/-- 'lockfastlaw19.JournalUndo', WHERE WHAT IT READS IS OF BULK AT MOST 1048576: true; the input reads as it did. -/
def journalUndoUptoRow : OpenClaim := { program := "ytkkbngcgphlikaagreatdoor", sum := "cda038d9f7b546b48cd63a0f84cd700b6f78f6f823000be0f3ca3e926f0fbefb", func := "lockfast/lockfastlaw19.JournalUndo", spec := "journalUndo", unfollowed := true, recurses := true, named := ["lockfast/chunk.kindPlace", "lockfast/chunk.classPlace", "lockfast/chunk.lanePlace", "lockfast/chunk.manyPlace", "lockfast/chunk.bitsPlace", "lockfast/class.blocks"], apart := false, laid := [("lockfast/class.blocks", laid_lockfast_class_blocks), ("lockfast/chunk.kindPlace", laid_lockfast_chunk_kindPlace), ("lockfast/chunk.classPlace", laid_lockfast_chunk_classPlace), ("lockfast/chunk.lanePlace", laid_lockfast_chunk_lanePlace), ("lockfast/chunk.manyPlace", laid_lockfast_chunk_manyPlace), ("lockfast/chunk.bitsPlace", laid_lockfast_chunk_bitsPlace)], narrowed := true }
def JournalUndoUptoSaid : Prop := journalUndoUptoRow.holds Tryz.pinned (OpenSpec.upto journalUndoSpec)

/-- 'lockfastlaw19.JournalRedo', WHERE WHAT IT READS IS OF BULK AT MOST 1048576: true; the input reads as it did. -/
def journalRedoUptoRow : OpenClaim := { program := "ytkkbngcgphlikaagreatdoor", sum := "cda038d9f7b546b48cd63a0f84cd700b6f78f6f823000be0f3ca3e926f0fbefb", func := "lockfast/lockfastlaw19.JournalRedo", spec := "journalRedo", unfollowed := true, recurses := true, named := ["lockfast/chunk.kindPlace", "lockfast/chunk.classPlace", "lockfast/chunk.lanePlace", "lockfast/chunk.manyPlace", "lockfast/chunk.bitsPlace", "lockfast/class.blocks"], apart := false, laid := [("lockfast/class.blocks", laid_lockfast_class_blocks), ("lockfast/chunk.kindPlace", laid_lockfast_chunk_kindPlace), ("lockfast/chunk.classPlace", laid_lockfast_chunk_classPlace), ("lockfast/chunk.lanePlace", laid_lockfast_chunk_lanePlace), ("lockfast/chunk.manyPlace", laid_lockfast_chunk_manyPlace), ("lockfast/chunk.bitsPlace", laid_lockfast_chunk_bitsPlace)], narrowed := true }
def JournalRedoUptoSaid : Prop := journalRedoUptoRow.holds Tryz.pinned (OpenSpec.upto journalRedoSpec)

/-- 'lockfastlaw19.JournalGrows', WHERE WHAT IT READS IS OF BULK AT MOST 1048576: true; the input reads as it did. -/
def journalGrowsUptoRow : OpenClaim := { program := "ytkkbngcgphlikaagreatdoor", sum := "cda038d9f7b546b48cd63a0f84cd700b6f78f6f823000be0f3ca3e926f0fbefb", func := "lockfast/lockfastlaw19.JournalGrows", spec := "journalGrows", unfollowed := true, recurses := true, named := ["lockfast/chunk.kindPlace", "lockfast/chunk.classPlace", "lockfast/chunk.lanePlace", "lockfast/chunk.manyPlace", "lockfast/chunk.bitsPlace", "lockfast/class.blocks"], apart := false, laid := [("lockfast/class.blocks", laid_lockfast_class_blocks), ("lockfast/chunk.kindPlace", laid_lockfast_chunk_kindPlace), ("lockfast/chunk.classPlace", laid_lockfast_chunk_classPlace), ("lockfast/chunk.lanePlace", laid_lockfast_chunk_lanePlace), ("lockfast/chunk.manyPlace", laid_lockfast_chunk_manyPlace), ("lockfast/chunk.bitsPlace", laid_lockfast_chunk_bitsPlace)], narrowed := true }
def JournalGrowsUptoSaid : Prop := journalGrowsUptoRow.holds Tryz.pinned (OpenSpec.upto journalGrowsSpec)

/-- 'lockfastlaw19.JournalHeals', WHERE WHAT IT READS IS OF BULK AT MOST 1048576: true; the input reads as it did. -/
def journalHealsUptoRow : OpenClaim := { program := "ytkkbngcgphlikaagreatdoor", sum := "cda038d9f7b546b48cd63a0f84cd700b6f78f6f823000be0f3ca3e926f0fbefb", func := "lockfast/lockfastlaw19.JournalHeals", spec := "journalHeals", unfollowed := true, recurses := true, named := ["lockfast/chunk.kindPlace", "lockfast/chunk.classPlace", "lockfast/chunk.lanePlace", "lockfast/chunk.manyPlace", "lockfast/chunk.bitsPlace", "lockfast/class.blocks"], apart := false, laid := [("lockfast/class.blocks", laid_lockfast_class_blocks), ("lockfast/chunk.kindPlace", laid_lockfast_chunk_kindPlace), ("lockfast/chunk.classPlace", laid_lockfast_chunk_classPlace), ("lockfast/chunk.lanePlace", laid_lockfast_chunk_lanePlace), ("lockfast/chunk.manyPlace", laid_lockfast_chunk_manyPlace), ("lockfast/chunk.bitsPlace", laid_lockfast_chunk_bitsPlace)], narrowed := true }
def JournalHealsUptoSaid : Prop := journalHealsUptoRow.holds Tryz.pinned (OpenSpec.upto journalHealsSpec)

/-- 'lockfastlaw19.JournalSteps', WHERE WHAT IT READS IS OF BULK AT MOST 1048576: true; the input reads as it did. -/
def journalStepsUptoRow : OpenClaim := { program := "ytkkbngcgphlikaagreatdoor", sum := "cda038d9f7b546b48cd63a0f84cd700b6f78f6f823000be0f3ca3e926f0fbefb", func := "lockfast/lockfastlaw19.JournalSteps", spec := "journalSteps", unfollowed := true, recurses := true, named := ["lockfast/chunk.kindPlace", "lockfast/chunk.classPlace", "lockfast/chunk.lanePlace", "lockfast/chunk.manyPlace", "lockfast/chunk.bitsPlace", "lockfast/class.blocks"], apart := false, laid := [("lockfast/class.blocks", laid_lockfast_class_blocks), ("lockfast/chunk.kindPlace", laid_lockfast_chunk_kindPlace), ("lockfast/chunk.classPlace", laid_lockfast_chunk_classPlace), ("lockfast/chunk.lanePlace", laid_lockfast_chunk_lanePlace), ("lockfast/chunk.manyPlace", laid_lockfast_chunk_manyPlace), ("lockfast/chunk.bitsPlace", laid_lockfast_chunk_bitsPlace)], narrowed := true }
def JournalStepsUptoSaid : Prop := journalStepsUptoRow.holds Tryz.pinned (OpenSpec.upto journalStepsSpec)

/-- 'lockfastlaw19.JournalSaves', WHERE WHAT IT READS IS OF BULK AT MOST 1048576: true; the input reads as it did. -/
def journalSavesUptoRow : OpenClaim := { program := "ytkkbngcgphlikaagreatdoor", sum := "cda038d9f7b546b48cd63a0f84cd700b6f78f6f823000be0f3ca3e926f0fbefb", func := "lockfast/lockfastlaw19.JournalSaves", spec := "journalSaves", unfollowed := true, recurses := true, named := ["lockfast/chunk.kindPlace", "lockfast/chunk.classPlace", "lockfast/chunk.lanePlace", "lockfast/chunk.manyPlace", "lockfast/chunk.bitsPlace", "lockfast/class.blocks"], apart := false, laid := [("lockfast/class.blocks", laid_lockfast_class_blocks), ("lockfast/chunk.kindPlace", laid_lockfast_chunk_kindPlace), ("lockfast/chunk.classPlace", laid_lockfast_chunk_classPlace), ("lockfast/chunk.lanePlace", laid_lockfast_chunk_lanePlace), ("lockfast/chunk.manyPlace", laid_lockfast_chunk_manyPlace), ("lockfast/chunk.bitsPlace", laid_lockfast_chunk_bitsPlace)], narrowed := true }
def JournalSavesUptoSaid : Prop := journalSavesUptoRow.holds Tryz.pinned (OpenSpec.upto journalSavesSpec)

end Rows
end Go.Proofs.YtkkbngcgphlikaaGreatDoor
