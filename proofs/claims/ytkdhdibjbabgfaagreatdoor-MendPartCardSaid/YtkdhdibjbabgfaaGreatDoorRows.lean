/-
  NARROWER THAN 'FOR EVERY INPUT', by the rows' own cells (each row's printed sentence says how): MendLanes: laid · MendWhole: laid · MendBytes: laid · MendAgain: laid · MendPart: laid · MendTouches: laid.
  DERIVED. THE GIVEN ROWS OF THIS SEAT. 6 by the template 'for every input the law returns true; each argument reads behind the call as it read before'; 0 by the template 'total and deterministic' (their statements: YtkdhdibjbabgfaaGreatDoorTotals.lean).
  GIVEN WITH THE SEED: the statements are not yours to turn. If you find one false, say at which input.
  Laid BY PROGRAM, IN A SANDBOX (cutbox-rows.mjs): the forced cells as the released guide's own fill.sh prints them over the translation 01cfce058eccd6ed… (all of the seat's roots in one cut). By AI agents, Wed Nov 11 2026. No macro, syntax, notation, axiom, sorry.
-/
import Derived.Test.YtkdhdibjbabgfaaGreatDoorChecked
import GoSem.Claim
import GoSem.ClaimJoined
import GoSem.ClaimMapViews
import Derived.JoinedTies
import Derived.KernelRfl
namespace Go.Proofs.YtkdhdibjbabgfaaGreatDoor
/- THE CELL 'sum', in the pinned program and in every row, IS THE sha256 OF THE DUMP (.gsa) THAT YtkdhdibjbabgfaaGreatDoorProg.lean LOADS. Nothing in Lean hashes anything: it is a label: what it is worth is what the hold of that sum in a sandbox is worth. -/
noncomputable def Tryz.pinned : Pinned := { name := "ytkdhdibjbabgfaagreatdoor", sum := "01cfce058eccd6ed24f202c23de8cd9140f06863726305f3c1f4b33a849d8c8c", checked := Tryz.checked }
namespace Rows
def none {H : Type} : Left H := { results := [], args := [] }

/- WHAT THE LISTED PACKAGE-LEVEL VARIABLES READ AS WHEN THE CALL BEGINS. Each datum BY PROGRAM (the guide's laid-datum.mjs) off the statement by which the dump's own 'gosem.cut.vars' lays the variable. In a bare row this is a premise. The card (YtkdhdibjbabgfaaGreatDoorCards.lean) ties it to the program's text. -/
def laid_lockfast_class_blocks {H : Type} : DataW H := .agg [.lit (.int .i64 4), .lit (.int .i64 8), .lit (.int .i64 16)]
def laid_lockfast_chunk_kindPlace {H : Type} : DataW H := .agg [.lit (.int .i64 0), .lit (.int .i64 3)]
def laid_lockfast_chunk_classPlace {H : Type} : DataW H := .agg [.lit (.int .i64 3), .lit (.int .i64 2)]
def laid_lockfast_chunk_lanePlace {H : Type} : DataW H := .agg [.lit (.int .i64 5), .lit (.int .i64 6)]
def laid_lockfast_chunk_manyPlace {H : Type} : DataW H := .agg [.lit (.int .i64 11), .lit (.int .i64 13)]
def laid_lockfast_chunk_bitsPlace {H : Type} : DataW H := .agg [.lit (.int .i64 24), .lit (.int .i64 8)]

/-- 'lockfastlaw15.MendLanes': WHATEVER THE INPUT: true; the input reads as it did. -/
def mendLanesSpec : ChangeSpec := { name := "mendLanes", fn := fun _ => fun
  | [d1, d2] => { results := [.lit (.bool true)], args := [d1, d2] }
  | _ => none }
def mendLanesRow : OpenClaim := { program := "ytkdhdibjbabgfaagreatdoor", sum := "01cfce058eccd6ed24f202c23de8cd9140f06863726305f3c1f4b33a849d8c8c", func := "lockfast/lockfastlaw15.MendLanes", spec := "mendLanes", unfollowed := true, recurses := true, named := ["lockfast/chunk.kindPlace", "lockfast/chunk.classPlace", "lockfast/chunk.lanePlace", "lockfast/chunk.manyPlace", "lockfast/chunk.bitsPlace", "lockfast/class.blocks"], apart := false, laid := [("lockfast/class.blocks", laid_lockfast_class_blocks), ("lockfast/chunk.kindPlace", laid_lockfast_chunk_kindPlace), ("lockfast/chunk.classPlace", laid_lockfast_chunk_classPlace), ("lockfast/chunk.lanePlace", laid_lockfast_chunk_lanePlace), ("lockfast/chunk.manyPlace", laid_lockfast_chunk_manyPlace), ("lockfast/chunk.bitsPlace", laid_lockfast_chunk_bitsPlace)] }
def MendLanesSaid : Prop := mendLanesRow.holds Tryz.pinned (OpenSpec.ofChange mendLanesSpec)

/-- ITS FALSE NEIGHBOUR: 'it returns false'. Refute it at one input. -/
def mendLanesWrong : ChangeSpec := { name := "mendLanes", fn := fun _ => fun
  | [d1, d2] => { results := [.lit (.bool false)], args := [d1, d2] }
  | _ => none }
def MendLanesWrongFalsely : Prop := mendLanesRow.holds Tryz.pinned (OpenSpec.ofChange mendLanesWrong)

/-- 'lockfastlaw15.MendWhole': WHATEVER THE INPUT: true; the input reads as it did. -/
def mendWholeSpec : ChangeSpec := { name := "mendWhole", fn := fun _ => fun
  | [d] => { results := [.lit (.bool true)], args := [d] }
  | _ => none }
def mendWholeRow : OpenClaim := { program := "ytkdhdibjbabgfaagreatdoor", sum := "01cfce058eccd6ed24f202c23de8cd9140f06863726305f3c1f4b33a849d8c8c", func := "lockfast/lockfastlaw15.MendWhole", spec := "mendWhole", unfollowed := true, recurses := true, named := ["lockfast/chunk.kindPlace", "lockfast/chunk.classPlace", "lockfast/chunk.lanePlace", "lockfast/chunk.manyPlace", "lockfast/chunk.bitsPlace", "lockfast/class.blocks"], apart := false, laid := [("lockfast/class.blocks", laid_lockfast_class_blocks), ("lockfast/chunk.kindPlace", laid_lockfast_chunk_kindPlace), ("lockfast/chunk.classPlace", laid_lockfast_chunk_classPlace), ("lockfast/chunk.lanePlace", laid_lockfast_chunk_lanePlace), ("lockfast/chunk.manyPlace", laid_lockfast_chunk_manyPlace), ("lockfast/chunk.bitsPlace", laid_lockfast_chunk_bitsPlace)] }
def MendWholeSaid : Prop := mendWholeRow.holds Tryz.pinned (OpenSpec.ofChange mendWholeSpec)

/-- ITS FALSE NEIGHBOUR: 'it returns false'. Refute it at one input. -/
def mendWholeWrong : ChangeSpec := { name := "mendWhole", fn := fun _ => fun
  | [d] => { results := [.lit (.bool false)], args := [d] }
  | _ => none }
def MendWholeWrongFalsely : Prop := mendWholeRow.holds Tryz.pinned (OpenSpec.ofChange mendWholeWrong)

/-- 'lockfastlaw15.MendBytes': WHATEVER THE INPUT: true; the input reads as it did. -/
def mendBytesSpec : ChangeSpec := { name := "mendBytes", fn := fun _ => fun
  | [d1, d2, d3] => { results := [.lit (.bool true)], args := [d1, d2, d3] }
  | _ => none }
def mendBytesRow : OpenClaim := { program := "ytkdhdibjbabgfaagreatdoor", sum := "01cfce058eccd6ed24f202c23de8cd9140f06863726305f3c1f4b33a849d8c8c", func := "lockfast/lockfastlaw15.MendBytes", spec := "mendBytes", unfollowed := true, recurses := true, named := ["lockfast/chunk.kindPlace", "lockfast/chunk.classPlace", "lockfast/chunk.lanePlace", "lockfast/chunk.manyPlace", "lockfast/chunk.bitsPlace", "lockfast/class.blocks"], apart := false, laid := [("lockfast/class.blocks", laid_lockfast_class_blocks), ("lockfast/chunk.kindPlace", laid_lockfast_chunk_kindPlace), ("lockfast/chunk.classPlace", laid_lockfast_chunk_classPlace), ("lockfast/chunk.lanePlace", laid_lockfast_chunk_lanePlace), ("lockfast/chunk.manyPlace", laid_lockfast_chunk_manyPlace), ("lockfast/chunk.bitsPlace", laid_lockfast_chunk_bitsPlace)] }
def MendBytesSaid : Prop := mendBytesRow.holds Tryz.pinned (OpenSpec.ofChange mendBytesSpec)

/-- ITS FALSE NEIGHBOUR: 'it returns false'. Refute it at one input. -/
def mendBytesWrong : ChangeSpec := { name := "mendBytes", fn := fun _ => fun
  | [d1, d2, d3] => { results := [.lit (.bool false)], args := [d1, d2, d3] }
  | _ => none }
def MendBytesWrongFalsely : Prop := mendBytesRow.holds Tryz.pinned (OpenSpec.ofChange mendBytesWrong)

/-- 'lockfastlaw15.MendAgain': WHATEVER THE INPUT: true; the input reads as it did. -/
def mendAgainSpec : ChangeSpec := { name := "mendAgain", fn := fun _ => fun
  | [d] => { results := [.lit (.bool true)], args := [d] }
  | _ => none }
def mendAgainRow : OpenClaim := { program := "ytkdhdibjbabgfaagreatdoor", sum := "01cfce058eccd6ed24f202c23de8cd9140f06863726305f3c1f4b33a849d8c8c", func := "lockfast/lockfastlaw15.MendAgain", spec := "mendAgain", unfollowed := true, recurses := true, named := ["lockfast/chunk.kindPlace", "lockfast/chunk.classPlace", "lockfast/chunk.lanePlace", "lockfast/chunk.manyPlace", "lockfast/chunk.bitsPlace", "lockfast/class.blocks"], apart := false, laid := [("lockfast/class.blocks", laid_lockfast_class_blocks), ("lockfast/chunk.kindPlace", laid_lockfast_chunk_kindPlace), ("lockfast/chunk.classPlace", laid_lockfast_chunk_classPlace), ("lockfast/chunk.lanePlace", laid_lockfast_chunk_lanePlace), ("lockfast/chunk.manyPlace", laid_lockfast_chunk_manyPlace), ("lockfast/chunk.bitsPlace", laid_lockfast_chunk_bitsPlace)] }
def MendAgainSaid : Prop := mendAgainRow.holds Tryz.pinned (OpenSpec.ofChange mendAgainSpec)

/-- ITS FALSE NEIGHBOUR: 'it returns false'. Refute it at one input. -/
def mendAgainWrong : ChangeSpec := { name := "mendAgain", fn := fun _ => fun
  | [d] => { results := [.lit (.bool false)], args := [d] }
  | _ => none }
def MendAgainWrongFalsely : Prop := mendAgainRow.holds Tryz.pinned (OpenSpec.ofChange mendAgainWrong)

/-- 'lockfastlaw15.MendPart': WHATEVER THE INPUT: true; the input reads as it did. -/
def mendPartSpec : ChangeSpec := { name := "mendPart", fn := fun _ => fun
  | [d1, d2, d3] => { results := [.lit (.bool true)], args := [d1, d2, d3] }
  | _ => none }
def mendPartRow : OpenClaim := { program := "ytkdhdibjbabgfaagreatdoor", sum := "01cfce058eccd6ed24f202c23de8cd9140f06863726305f3c1f4b33a849d8c8c", func := "lockfast/lockfastlaw15.MendPart", spec := "mendPart", unfollowed := true, recurses := true, named := ["lockfast/chunk.kindPlace", "lockfast/chunk.classPlace", "lockfast/chunk.lanePlace", "lockfast/chunk.manyPlace", "lockfast/chunk.bitsPlace", "lockfast/class.blocks"], apart := false, laid := [("lockfast/class.blocks", laid_lockfast_class_blocks), ("lockfast/chunk.kindPlace", laid_lockfast_chunk_kindPlace), ("lockfast/chunk.classPlace", laid_lockfast_chunk_classPlace), ("lockfast/chunk.lanePlace", laid_lockfast_chunk_lanePlace), ("lockfast/chunk.manyPlace", laid_lockfast_chunk_manyPlace), ("lockfast/chunk.bitsPlace", laid_lockfast_chunk_bitsPlace)] }
def MendPartSaid : Prop := mendPartRow.holds Tryz.pinned (OpenSpec.ofChange mendPartSpec)

/-- ITS FALSE NEIGHBOUR: 'it returns false'. Refute it at one input. -/
def mendPartWrong : ChangeSpec := { name := "mendPart", fn := fun _ => fun
  | [d1, d2, d3] => { results := [.lit (.bool false)], args := [d1, d2, d3] }
  | _ => none }
def MendPartWrongFalsely : Prop := mendPartRow.holds Tryz.pinned (OpenSpec.ofChange mendPartWrong)

/-- 'lockfastlaw15.MendTouches': WHATEVER THE INPUT: true; the input reads as it did. -/
def mendTouchesSpec : ChangeSpec := { name := "mendTouches", fn := fun _ => fun
  | [d] => { results := [.lit (.bool true)], args := [d] }
  | _ => none }
def mendTouchesRow : OpenClaim := { program := "ytkdhdibjbabgfaagreatdoor", sum := "01cfce058eccd6ed24f202c23de8cd9140f06863726305f3c1f4b33a849d8c8c", func := "lockfast/lockfastlaw15.MendTouches", spec := "mendTouches", unfollowed := true, recurses := true, named := ["lockfast/chunk.kindPlace", "lockfast/chunk.classPlace", "lockfast/chunk.lanePlace", "lockfast/chunk.manyPlace", "lockfast/chunk.bitsPlace", "lockfast/class.blocks"], apart := false, laid := [("lockfast/class.blocks", laid_lockfast_class_blocks), ("lockfast/chunk.kindPlace", laid_lockfast_chunk_kindPlace), ("lockfast/chunk.classPlace", laid_lockfast_chunk_classPlace), ("lockfast/chunk.lanePlace", laid_lockfast_chunk_lanePlace), ("lockfast/chunk.manyPlace", laid_lockfast_chunk_manyPlace), ("lockfast/chunk.bitsPlace", laid_lockfast_chunk_bitsPlace)] }
def MendTouchesSaid : Prop := mendTouchesRow.holds Tryz.pinned (OpenSpec.ofChange mendTouchesSpec)

/-- ITS FALSE NEIGHBOUR: 'it returns false'. Refute it at one input. -/
def mendTouchesWrong : ChangeSpec := { name := "mendTouches", fn := fun _ => fun
  | [d] => { results := [.lit (.bool false)], args := [d] }
  | _ => none }
def MendTouchesWrongFalsely : Prop := mendTouchesRow.holds Tryz.pinned (OpenSpec.ofChange mendTouchesWrong)

/- THE SECOND FORM. 'bulk': how many values and letters a reading holds, each counted each time it is reached (what is shared counts as often as it is met; a slice's spare places count too). A statement '..UptoSaid' is the law's where the arguments, and the package variables that the reading takes, are together of bulk at most 1048576: NARROWER than '..Said'. Prove '..Said' where nothing that the law and all that it calls make is longer than what came in: it says more and counts as full. Else prove '..UptoSaid'. A law counts once. -/
mutual
def uptoBulk {H : Type} : DataW H → Nat
  | .lit (.string bytes) => bytes.length + 1
  | .lit _ => 1
  | .nil => 1
  | .ptr d => uptoBulk d + 1
  | .slice elems spare => uptoBulkAll elems + uptoBulkAll spare + 1
  | .agg parts => uptoBulkAll parts + 1
  | .iface _ d => uptoBulk d + 1
  | .map entries => uptoBulkEntries entries + 1
  | .held _ => 1
def uptoBulkAll {H : Type} : List (DataW H) → Nat
  | [] => 0
  | d :: r => uptoBulk d + uptoBulkAll r
def uptoBulkEntries {H : Type} : List (Lit × DataW H) → Nat
  | [] => 0
  | x :: r => uptoBulkEntry x + uptoBulkEntries r
def uptoBulkEntry {H : Type} : Lit × DataW H → Nat
  | (.string bytes, d) => bytes.length + uptoBulk d + 1
  | (_, d) => uptoBulk d + 1
 end
def uptoSmall : (H : Type) → List (DataW H) → Bool := fun _ ds => decide (uptoBulkAll ds ≤ 1048576)
def OpenSpec.upto (s : _root_.Go.ChangeSpec) : _root_.Go.OpenSpec := { _root_.Go.OpenSpec.ofChange s with cond := some uptoSmall }

/-- 'lockfastlaw15.MendLanes', WHERE WHAT IT READS IS OF BULK AT MOST 1048576: true; the input reads as it did. -/
def mendLanesUptoRow : OpenClaim := { program := "ytkdhdibjbabgfaagreatdoor", sum := "01cfce058eccd6ed24f202c23de8cd9140f06863726305f3c1f4b33a849d8c8c", func := "lockfast/lockfastlaw15.MendLanes", spec := "mendLanes", unfollowed := true, recurses := true, named := ["lockfast/chunk.kindPlace", "lockfast/chunk.classPlace", "lockfast/chunk.lanePlace", "lockfast/chunk.manyPlace", "lockfast/chunk.bitsPlace", "lockfast/class.blocks"], apart := false, laid := [("lockfast/class.blocks", laid_lockfast_class_blocks), ("lockfast/chunk.kindPlace", laid_lockfast_chunk_kindPlace), ("lockfast/chunk.classPlace", laid_lockfast_chunk_classPlace), ("lockfast/chunk.lanePlace", laid_lockfast_chunk_lanePlace), ("lockfast/chunk.manyPlace", laid_lockfast_chunk_manyPlace), ("lockfast/chunk.bitsPlace", laid_lockfast_chunk_bitsPlace)], narrowed := true }
def MendLanesUptoSaid : Prop := mendLanesUptoRow.holds Tryz.pinned (OpenSpec.upto mendLanesSpec)

/-- 'lockfastlaw15.MendWhole', WHERE WHAT IT READS IS OF BULK AT MOST 1048576: true; the input reads as it did. -/
def mendWholeUptoRow : OpenClaim := { program := "ytkdhdibjbabgfaagreatdoor", sum := "01cfce058eccd6ed24f202c23de8cd9140f06863726305f3c1f4b33a849d8c8c", func := "lockfast/lockfastlaw15.MendWhole", spec := "mendWhole", unfollowed := true, recurses := true, named := ["lockfast/chunk.kindPlace", "lockfast/chunk.classPlace", "lockfast/chunk.lanePlace", "lockfast/chunk.manyPlace", "lockfast/chunk.bitsPlace", "lockfast/class.blocks"], apart := false, laid := [("lockfast/class.blocks", laid_lockfast_class_blocks), ("lockfast/chunk.kindPlace", laid_lockfast_chunk_kindPlace), ("lockfast/chunk.classPlace", laid_lockfast_chunk_classPlace), ("lockfast/chunk.lanePlace", laid_lockfast_chunk_lanePlace), ("lockfast/chunk.manyPlace", laid_lockfast_chunk_manyPlace), ("lockfast/chunk.bitsPlace", laid_lockfast_chunk_bitsPlace)], narrowed := true }
def MendWholeUptoSaid : Prop := mendWholeUptoRow.holds Tryz.pinned (OpenSpec.upto mendWholeSpec)

/-- 'lockfastlaw15.MendBytes', WHERE WHAT IT READS IS OF BULK AT MOST 1048576: true; the input reads as it did. -/
def mendBytesUptoRow : OpenClaim := { program := "ytkdhdibjbabgfaagreatdoor", sum := "01cfce058eccd6ed24f202c23de8cd9140f06863726305f3c1f4b33a849d8c8c", func := "lockfast/lockfastlaw15.MendBytes", spec := "mendBytes", unfollowed := true, recurses := true, named := ["lockfast/chunk.kindPlace", "lockfast/chunk.classPlace", "lockfast/chunk.lanePlace", "lockfast/chunk.manyPlace", "lockfast/chunk.bitsPlace", "lockfast/class.blocks"], apart := false, laid := [("lockfast/class.blocks", laid_lockfast_class_blocks), ("lockfast/chunk.kindPlace", laid_lockfast_chunk_kindPlace), ("lockfast/chunk.classPlace", laid_lockfast_chunk_classPlace), ("lockfast/chunk.lanePlace", laid_lockfast_chunk_lanePlace), ("lockfast/chunk.manyPlace", laid_lockfast_chunk_manyPlace), ("lockfast/chunk.bitsPlace", laid_lockfast_chunk_bitsPlace)], narrowed := true }
def MendBytesUptoSaid : Prop := mendBytesUptoRow.holds Tryz.pinned (OpenSpec.upto mendBytesSpec)

/-- 'lockfastlaw15.MendAgain', WHERE WHAT IT READS IS OF BULK AT MOST 1048576: true; the input reads as it did. -/
def mendAgainUptoRow : OpenClaim := { program := "ytkdhdibjbabgfaagreatdoor", sum := "01cfce058eccd6ed24f202c23de8cd9140f06863726305f3c1f4b33a849d8c8c", func := "lockfast/lockfastlaw15.MendAgain", spec := "mendAgain", unfollowed := true, recurses := true, named := ["lockfast/chunk.kindPlace", "lockfast/chunk.classPlace", "lockfast/chunk.lanePlace", "lockfast/chunk.manyPlace", "lockfast/chunk.bitsPlace", "lockfast/class.blocks"], apart := false, laid := [("lockfast/class.blocks", laid_lockfast_class_blocks), ("lockfast/chunk.kindPlace", laid_lockfast_chunk_kindPlace), ("lockfast/chunk.classPlace", laid_lockfast_chunk_classPlace), ("lockfast/chunk.lanePlace", laid_lockfast_chunk_lanePlace), ("lockfast/chunk.manyPlace", laid_lockfast_chunk_manyPlace), ("lockfast/chunk.bitsPlace", laid_lockfast_chunk_bitsPlace)], narrowed := true }
def MendAgainUptoSaid : Prop := mendAgainUptoRow.holds Tryz.pinned (OpenSpec.upto mendAgainSpec)

/-- 'lockfastlaw15.MendPart', WHERE WHAT IT READS IS OF BULK AT MOST 1048576: true; the input reads as it did. -/
def mendPartUptoRow : OpenClaim := { program := "ytkdhdibjbabgfaagreatdoor", sum := "01cfce058eccd6ed24f202c23de8cd9140f06863726305f3c1f4b33a849d8c8c", func := "lockfast/lockfastlaw15.MendPart", spec := "mendPart", unfollowed := true, recurses := true, named := ["lockfast/chunk.kindPlace", "lockfast/chunk.classPlace", "lockfast/chunk.lanePlace", "lockfast/chunk.manyPlace", "lockfast/chunk.bitsPlace", "lockfast/class.blocks"], apart := false, laid := [("lockfast/class.blocks", laid_lockfast_class_blocks), ("lockfast/chunk.kindPlace", laid_lockfast_chunk_kindPlace), ("lockfast/chunk.classPlace", laid_lockfast_chunk_classPlace), ("lockfast/chunk.lanePlace", laid_lockfast_chunk_lanePlace), ("lockfast/chunk.manyPlace", laid_lockfast_chunk_manyPlace), ("lockfast/chunk.bitsPlace", laid_lockfast_chunk_bitsPlace)], narrowed := true }
def MendPartUptoSaid : Prop := mendPartUptoRow.holds Tryz.pinned (OpenSpec.upto mendPartSpec)

/-- 'lockfastlaw15.MendTouches', WHERE WHAT IT READS IS OF BULK AT MOST 1048576: true; the input reads as it did. -/
def mendTouchesUptoRow : OpenClaim := { program := "ytkdhdibjbabgfaagreatdoor", sum := "01cfce058eccd6ed24f202c23de8cd9140f06863726305f3c1f4b33a849d8c8c", func := "lockfast/lockfastlaw15.MendTouches", spec := "mendTouches", unfollowed := true, recurses := true, named := ["lockfast/chunk.kindPlace", "lockfast/chunk.classPlace", "lockfast/chunk.lanePlace", "lockfast/chunk.manyPlace", "lockfast/chunk.bitsPlace", "lockfast/class.blocks"], apart := false, laid := [("lockfast/class.blocks", laid_lockfast_class_blocks), ("lockfast/chunk.kindPlace", laid_lockfast_chunk_kindPlace), ("lockfast/chunk.classPlace", laid_lockfast_chunk_classPlace), ("lockfast/chunk.lanePlace", laid_lockfast_chunk_lanePlace), ("lockfast/chunk.manyPlace", laid_lockfast_chunk_manyPlace), ("lockfast/chunk.bitsPlace", laid_lockfast_chunk_bitsPlace)], narrowed := true }
def MendTouchesUptoSaid : Prop := mendTouchesUptoRow.holds Tryz.pinned (OpenSpec.upto mendTouchesSpec)

end Rows
end Go.Proofs.YtkdhdibjbabgfaaGreatDoor
