/-
  NARROWER THAN 'FOR EVERY INPUT', by the rows' own cells (each row's printed sentence says how): SoundTells: laid · SoundGiven: laid · SoundPlaces: laid · SoundApart: laid · SoundWords: laid · SoundDrops: laid · SoundTwins: laid.
  DERIVED. THE GIVEN ROWS OF THIS SEAT. 7 by the template 'for every input the law returns true; each argument reads behind the call as it read before'; 0 by the template 'total and deterministic' (their statements: YtdmmbnnejbmdpaaGreatDoorTotals.lean).
  GIVEN WITH THE SEED: the statements are not yours to turn. If you find one false, say at which input.
  Laid BY PROGRAM, IN A SANDBOX (cutbox-rows.mjs): the forced cells as the released guide's own fill.sh prints them over the translation 82ba3295417121fa… (all of the seat's roots in one cut). By AI agents, Wed Nov 11 2026. No macro, syntax, notation, axiom, sorry.
-/
import Derived.Test.YtdmmbnnejbmdpaaGreatDoorChecked
import GoSem.Claim
import GoSem.ClaimJoined
import GoSem.ClaimMapViews
import Derived.JoinedTies
import Derived.KernelRfl
namespace Go.Proofs.YtdmmbnnejbmdpaaGreatDoor
/- THE CELL 'sum', in the pinned program and in every row, IS THE sha256 OF THE DUMP (.gsa) THAT YtdmmbnnejbmdpaaGreatDoorProg.lean LOADS. Nothing in Lean hashes anything: it is a label: what it is worth is what the hold of that sum in a sandbox is worth. -/
noncomputable def Tryz.pinned : Pinned := { name := "ytdmmbnnejbmdpaagreatdoor", sum := "82ba3295417121fa2539cbc34a15cb19e83703c77c5c7b962e860510357809cc", checked := Tryz.checked }
namespace Rows
def none {H : Type} : Left H := { results := [], args := [] }

/- WHAT THE LISTED PACKAGE-LEVEL VARIABLES READ AS WHEN THE CALL BEGINS. Each datum BY PROGRAM (the guide's laid-datum.mjs) off the statement by which the dump's own 'gosem.cut.vars' lays the variable. In a bare row this is a premise. The card (YtdmmbnnejbmdpaaGreatDoorCards.lean) ties it to the program's text. -/
def laid_math_bits_deBruijn64tab {H : Type} : DataW H := .agg [.lit (.int .u8 0), .lit (.int .u8 1), .lit (.int .u8 56), .lit (.int .u8 2), .lit (.int .u8 57), .lit (.int .u8 49), .lit (.int .u8 28), .lit (.int .u8 3), .lit (.int .u8 61), .lit (.int .u8 58), .lit (.int .u8 42), .lit (.int .u8 50), .lit (.int .u8 38), .lit (.int .u8 29), .lit (.int .u8 17), .lit (.int .u8 4), .lit (.int .u8 62), .lit (.int .u8 47), .lit (.int .u8 59), .lit (.int .u8 36), .lit (.int .u8 45), .lit (.int .u8 43), .lit (.int .u8 51), .lit (.int .u8 22), .lit (.int .u8 53), .lit (.int .u8 39), .lit (.int .u8 33), .lit (.int .u8 30), .lit (.int .u8 24), .lit (.int .u8 18), .lit (.int .u8 12), .lit (.int .u8 5), .lit (.int .u8 63), .lit (.int .u8 55), .lit (.int .u8 48), .lit (.int .u8 27), .lit (.int .u8 60), .lit (.int .u8 41), .lit (.int .u8 37), .lit (.int .u8 16), .lit (.int .u8 46), .lit (.int .u8 35), .lit (.int .u8 44), .lit (.int .u8 21), .lit (.int .u8 52), .lit (.int .u8 32), .lit (.int .u8 23), .lit (.int .u8 11), .lit (.int .u8 54), .lit (.int .u8 26), .lit (.int .u8 40), .lit (.int .u8 15), .lit (.int .u8 34), .lit (.int .u8 20), .lit (.int .u8 31), .lit (.int .u8 10), .lit (.int .u8 25), .lit (.int .u8 14), .lit (.int .u8 19), .lit (.int .u8 9), .lit (.int .u8 13), .lit (.int .u8 8), .lit (.int .u8 7), .lit (.int .u8 6)]
def laid_lockfast_class_blocks {H : Type} : DataW H := .agg [.lit (.int .i64 4), .lit (.int .i64 8), .lit (.int .i64 16)]
def laid_lockfast_chunk_kindPlace {H : Type} : DataW H := .agg [.lit (.int .i64 0), .lit (.int .i64 3)]
def laid_lockfast_chunk_classPlace {H : Type} : DataW H := .agg [.lit (.int .i64 3), .lit (.int .i64 2)]
def laid_lockfast_chunk_lanePlace {H : Type} : DataW H := .agg [.lit (.int .i64 5), .lit (.int .i64 6)]
def laid_lockfast_chunk_manyPlace {H : Type} : DataW H := .agg [.lit (.int .i64 11), .lit (.int .i64 13)]
def laid_lockfast_chunk_bitsPlace {H : Type} : DataW H := .agg [.lit (.int .i64 24), .lit (.int .i64 8)]

/-- 'lockfastlaw16.SoundTells': WHATEVER THE INPUT: true; the input reads as it did. -/
def soundTellsSpec : ChangeSpec := { name := "soundTells", fn := fun _ => fun
  | [d1, d2] => { results := [.lit (.bool true)], args := [d1, d2] }
  | _ => none }
def soundTellsRow : OpenClaim := { program := "ytdmmbnnejbmdpaagreatdoor", sum := "82ba3295417121fa2539cbc34a15cb19e83703c77c5c7b962e860510357809cc", func := "lockfast/lockfastlaw16.SoundTells", spec := "soundTells", unfollowed := true, recurses := true, named := ["lockfast/chunk.kindPlace", "lockfast/chunk.classPlace", "lockfast/chunk.lanePlace", "lockfast/chunk.manyPlace", "lockfast/chunk.bitsPlace", "lockfast/class.blocks", "math/bits.deBruijn64tab"], apart := false, laid := [("math/bits.deBruijn64tab", laid_math_bits_deBruijn64tab), ("lockfast/class.blocks", laid_lockfast_class_blocks), ("lockfast/chunk.kindPlace", laid_lockfast_chunk_kindPlace), ("lockfast/chunk.classPlace", laid_lockfast_chunk_classPlace), ("lockfast/chunk.lanePlace", laid_lockfast_chunk_lanePlace), ("lockfast/chunk.manyPlace", laid_lockfast_chunk_manyPlace), ("lockfast/chunk.bitsPlace", laid_lockfast_chunk_bitsPlace)] }
def SoundTellsSaid : Prop := soundTellsRow.holds Tryz.pinned (OpenSpec.ofChange soundTellsSpec)

/-- ITS FALSE NEIGHBOUR: 'it returns false'. Refute it at one input. -/
def soundTellsWrong : ChangeSpec := { name := "soundTells", fn := fun _ => fun
  | [d1, d2] => { results := [.lit (.bool false)], args := [d1, d2] }
  | _ => none }
def SoundTellsWrongFalsely : Prop := soundTellsRow.holds Tryz.pinned (OpenSpec.ofChange soundTellsWrong)

/-- 'lockfastlaw16.SoundGiven': WHATEVER THE INPUT: true; the input reads as it did. -/
def soundGivenSpec : ChangeSpec := { name := "soundGiven", fn := fun _ => fun
  | [d] => { results := [.lit (.bool true)], args := [d] }
  | _ => none }
def soundGivenRow : OpenClaim := { program := "ytdmmbnnejbmdpaagreatdoor", sum := "82ba3295417121fa2539cbc34a15cb19e83703c77c5c7b962e860510357809cc", func := "lockfast/lockfastlaw16.SoundGiven", spec := "soundGiven", unfollowed := true, recurses := true, named := ["lockfast/chunk.kindPlace", "lockfast/chunk.classPlace", "lockfast/chunk.lanePlace", "lockfast/chunk.manyPlace", "lockfast/chunk.bitsPlace", "lockfast/class.blocks", "math/bits.deBruijn64tab"], apart := false, laid := [("math/bits.deBruijn64tab", laid_math_bits_deBruijn64tab), ("lockfast/class.blocks", laid_lockfast_class_blocks), ("lockfast/chunk.kindPlace", laid_lockfast_chunk_kindPlace), ("lockfast/chunk.classPlace", laid_lockfast_chunk_classPlace), ("lockfast/chunk.lanePlace", laid_lockfast_chunk_lanePlace), ("lockfast/chunk.manyPlace", laid_lockfast_chunk_manyPlace), ("lockfast/chunk.bitsPlace", laid_lockfast_chunk_bitsPlace)] }
def SoundGivenSaid : Prop := soundGivenRow.holds Tryz.pinned (OpenSpec.ofChange soundGivenSpec)

/-- ITS FALSE NEIGHBOUR: 'it returns false'. Refute it at one input. -/
def soundGivenWrong : ChangeSpec := { name := "soundGiven", fn := fun _ => fun
  | [d] => { results := [.lit (.bool false)], args := [d] }
  | _ => none }
def SoundGivenWrongFalsely : Prop := soundGivenRow.holds Tryz.pinned (OpenSpec.ofChange soundGivenWrong)

/-- 'lockfastlaw16.SoundPlaces': WHATEVER THE INPUT: true; the input reads as it did. -/
def soundPlacesSpec : ChangeSpec := { name := "soundPlaces", fn := fun _ => fun
  | [d] => { results := [.lit (.bool true)], args := [d] }
  | _ => none }
def soundPlacesRow : OpenClaim := { program := "ytdmmbnnejbmdpaagreatdoor", sum := "82ba3295417121fa2539cbc34a15cb19e83703c77c5c7b962e860510357809cc", func := "lockfast/lockfastlaw16.SoundPlaces", spec := "soundPlaces", unfollowed := true, recurses := true, named := ["lockfast/chunk.kindPlace", "lockfast/chunk.classPlace", "lockfast/chunk.lanePlace", "lockfast/chunk.manyPlace", "lockfast/chunk.bitsPlace", "lockfast/class.blocks", "math/bits.deBruijn64tab"], apart := false, laid := [("math/bits.deBruijn64tab", laid_math_bits_deBruijn64tab), ("lockfast/class.blocks", laid_lockfast_class_blocks), ("lockfast/chunk.kindPlace", laid_lockfast_chunk_kindPlace), ("lockfast/chunk.classPlace", laid_lockfast_chunk_classPlace), ("lockfast/chunk.lanePlace", laid_lockfast_chunk_lanePlace), ("lockfast/chunk.manyPlace", laid_lockfast_chunk_manyPlace), ("lockfast/chunk.bitsPlace", laid_lockfast_chunk_bitsPlace)] }
def SoundPlacesSaid : Prop := soundPlacesRow.holds Tryz.pinned (OpenSpec.ofChange soundPlacesSpec)

/-- ITS FALSE NEIGHBOUR: 'it returns false'. Refute it at one input. -/
def soundPlacesWrong : ChangeSpec := { name := "soundPlaces", fn := fun _ => fun
  | [d] => { results := [.lit (.bool false)], args := [d] }
  | _ => none }
def SoundPlacesWrongFalsely : Prop := soundPlacesRow.holds Tryz.pinned (OpenSpec.ofChange soundPlacesWrong)

/-- 'lockfastlaw16.SoundApart': WHATEVER THE INPUT: true; the input reads as it did. -/
def soundApartSpec : ChangeSpec := { name := "soundApart", fn := fun _ => fun
  | [d1, d2] => { results := [.lit (.bool true)], args := [d1, d2] }
  | _ => none }
def soundApartRow : OpenClaim := { program := "ytdmmbnnejbmdpaagreatdoor", sum := "82ba3295417121fa2539cbc34a15cb19e83703c77c5c7b962e860510357809cc", func := "lockfast/lockfastlaw16.SoundApart", spec := "soundApart", unfollowed := true, recurses := true, named := ["lockfast/chunk.kindPlace", "lockfast/chunk.classPlace", "lockfast/chunk.lanePlace", "lockfast/chunk.manyPlace", "lockfast/chunk.bitsPlace", "lockfast/class.blocks", "math/bits.deBruijn64tab"], apart := false, laid := [("math/bits.deBruijn64tab", laid_math_bits_deBruijn64tab), ("lockfast/class.blocks", laid_lockfast_class_blocks), ("lockfast/chunk.kindPlace", laid_lockfast_chunk_kindPlace), ("lockfast/chunk.classPlace", laid_lockfast_chunk_classPlace), ("lockfast/chunk.lanePlace", laid_lockfast_chunk_lanePlace), ("lockfast/chunk.manyPlace", laid_lockfast_chunk_manyPlace), ("lockfast/chunk.bitsPlace", laid_lockfast_chunk_bitsPlace)] }
def SoundApartSaid : Prop := soundApartRow.holds Tryz.pinned (OpenSpec.ofChange soundApartSpec)

/-- ITS FALSE NEIGHBOUR: 'it returns false'. Refute it at one input. -/
def soundApartWrong : ChangeSpec := { name := "soundApart", fn := fun _ => fun
  | [d1, d2] => { results := [.lit (.bool false)], args := [d1, d2] }
  | _ => none }
def SoundApartWrongFalsely : Prop := soundApartRow.holds Tryz.pinned (OpenSpec.ofChange soundApartWrong)

/-- 'lockfastlaw16.SoundWords': WHATEVER THE INPUT: true; the input reads as it did. -/
def soundWordsSpec : ChangeSpec := { name := "soundWords", fn := fun _ => fun
  | [d1, d2, d3, d4] => { results := [.lit (.bool true)], args := [d1, d2, d3, d4] }
  | _ => none }
def soundWordsRow : OpenClaim := { program := "ytdmmbnnejbmdpaagreatdoor", sum := "82ba3295417121fa2539cbc34a15cb19e83703c77c5c7b962e860510357809cc", func := "lockfast/lockfastlaw16.SoundWords", spec := "soundWords", unfollowed := true, recurses := true, named := ["lockfast/chunk.kindPlace", "lockfast/chunk.classPlace", "lockfast/chunk.lanePlace", "lockfast/chunk.manyPlace", "lockfast/chunk.bitsPlace", "lockfast/class.blocks", "math/bits.deBruijn64tab"], apart := false, laid := [("math/bits.deBruijn64tab", laid_math_bits_deBruijn64tab), ("lockfast/class.blocks", laid_lockfast_class_blocks), ("lockfast/chunk.kindPlace", laid_lockfast_chunk_kindPlace), ("lockfast/chunk.classPlace", laid_lockfast_chunk_classPlace), ("lockfast/chunk.lanePlace", laid_lockfast_chunk_lanePlace), ("lockfast/chunk.manyPlace", laid_lockfast_chunk_manyPlace), ("lockfast/chunk.bitsPlace", laid_lockfast_chunk_bitsPlace)] }
def SoundWordsSaid : Prop := soundWordsRow.holds Tryz.pinned (OpenSpec.ofChange soundWordsSpec)

/-- ITS FALSE NEIGHBOUR: 'it returns false'. Refute it at one input. -/
def soundWordsWrong : ChangeSpec := { name := "soundWords", fn := fun _ => fun
  | [d1, d2, d3, d4] => { results := [.lit (.bool false)], args := [d1, d2, d3, d4] }
  | _ => none }
def SoundWordsWrongFalsely : Prop := soundWordsRow.holds Tryz.pinned (OpenSpec.ofChange soundWordsWrong)

/-- 'lockfastlaw16.SoundDrops': WHATEVER THE INPUT: true; the input reads as it did. -/
def soundDropsSpec : ChangeSpec := { name := "soundDrops", fn := fun _ => fun
  | [d1, d2] => { results := [.lit (.bool true)], args := [d1, d2] }
  | _ => none }
def soundDropsRow : OpenClaim := { program := "ytdmmbnnejbmdpaagreatdoor", sum := "82ba3295417121fa2539cbc34a15cb19e83703c77c5c7b962e860510357809cc", func := "lockfast/lockfastlaw16.SoundDrops", spec := "soundDrops", unfollowed := true, recurses := true, named := ["lockfast/chunk.kindPlace", "lockfast/chunk.classPlace", "lockfast/chunk.lanePlace", "lockfast/chunk.manyPlace", "lockfast/chunk.bitsPlace", "lockfast/class.blocks", "math/bits.deBruijn64tab"], apart := false, laid := [("math/bits.deBruijn64tab", laid_math_bits_deBruijn64tab), ("lockfast/class.blocks", laid_lockfast_class_blocks), ("lockfast/chunk.kindPlace", laid_lockfast_chunk_kindPlace), ("lockfast/chunk.classPlace", laid_lockfast_chunk_classPlace), ("lockfast/chunk.lanePlace", laid_lockfast_chunk_lanePlace), ("lockfast/chunk.manyPlace", laid_lockfast_chunk_manyPlace), ("lockfast/chunk.bitsPlace", laid_lockfast_chunk_bitsPlace)] }
def SoundDropsSaid : Prop := soundDropsRow.holds Tryz.pinned (OpenSpec.ofChange soundDropsSpec)

/-- ITS FALSE NEIGHBOUR: 'it returns false'. Refute it at one input. -/
def soundDropsWrong : ChangeSpec := { name := "soundDrops", fn := fun _ => fun
  | [d1, d2] => { results := [.lit (.bool false)], args := [d1, d2] }
  | _ => none }
def SoundDropsWrongFalsely : Prop := soundDropsRow.holds Tryz.pinned (OpenSpec.ofChange soundDropsWrong)

/-- 'lockfastlaw16.SoundTwins': WHATEVER THE INPUT: true; the input reads as it did. -/
def soundTwinsSpec : ChangeSpec := { name := "soundTwins", fn := fun _ => fun
  | [d1, d2, d3, d4] => { results := [.lit (.bool true)], args := [d1, d2, d3, d4] }
  | _ => none }
def soundTwinsRow : OpenClaim := { program := "ytdmmbnnejbmdpaagreatdoor", sum := "82ba3295417121fa2539cbc34a15cb19e83703c77c5c7b962e860510357809cc", func := "lockfast/lockfastlaw16.SoundTwins", spec := "soundTwins", unfollowed := true, recurses := true, named := ["lockfast/chunk.kindPlace", "lockfast/chunk.classPlace", "lockfast/chunk.lanePlace", "lockfast/chunk.manyPlace", "lockfast/chunk.bitsPlace", "lockfast/class.blocks", "math/bits.deBruijn64tab"], apart := false, laid := [("math/bits.deBruijn64tab", laid_math_bits_deBruijn64tab), ("lockfast/class.blocks", laid_lockfast_class_blocks), ("lockfast/chunk.kindPlace", laid_lockfast_chunk_kindPlace), ("lockfast/chunk.classPlace", laid_lockfast_chunk_classPlace), ("lockfast/chunk.lanePlace", laid_lockfast_chunk_lanePlace), ("lockfast/chunk.manyPlace", laid_lockfast_chunk_manyPlace), ("lockfast/chunk.bitsPlace", laid_lockfast_chunk_bitsPlace)] }
def SoundTwinsSaid : Prop := soundTwinsRow.holds Tryz.pinned (OpenSpec.ofChange soundTwinsSpec)

/-- ITS FALSE NEIGHBOUR: 'it returns false'. Refute it at one input. -/
def soundTwinsWrong : ChangeSpec := { name := "soundTwins", fn := fun _ => fun
  | [d1, d2, d3, d4] => { results := [.lit (.bool false)], args := [d1, d2, d3, d4] }
  | _ => none }
def SoundTwinsWrongFalsely : Prop := soundTwinsRow.holds Tryz.pinned (OpenSpec.ofChange soundTwinsWrong)

/- THE SECOND FORM. 'bulk': how many values and letters a reading holds, each counted each time it is reached (what is shared counts as often as it is met; a slice's spare places count too). A statement '..UptoSaid' is the law's where the arguments, and the package variables that the reading takes, are together of bulk at most 1048576: NARROWER than '..Said'. Prove '..Said' where nothing that the law and all that it calls make is longer than what came in: it says more and counts as full. Else prove '..UptoSaid'. A law counts once. -/
mutual
def uptoBulk {H : Type} : DataW H → Nat
  | .lit (.string bytes) => bytes.length + 1
  | .lit _ => 1
  | .nil => 1
  | .ptr d => uptoBulk d + 1
  | .slice elems spare => uptoBulkAll elems + uptoBulkAll spare + 1
  | .agg parts => uptoBulkAll parts + 1
  | .iface _ d => uptoBulk d + 1
  | .map entries => uptoBulkEntries entries + 1
  | .held _ => 1
def uptoBulkAll {H : Type} : List (DataW H) → Nat
  | [] => 0
  | d :: r => uptoBulk d + uptoBulkAll r
def uptoBulkEntries {H : Type} : List (Lit × DataW H) → Nat
  | [] => 0
  | x :: r => uptoBulkEntry x + uptoBulkEntries r
def uptoBulkEntry {H : Type} : Lit × DataW H → Nat
  | (.string bytes, d) => bytes.length + uptoBulk d + 1
  | (_, d) => uptoBulk d + 1
 end
def uptoSmall : (H : Type) → List (DataW H) → Bool := fun _ ds => decide (uptoBulkAll ds ≤ 1048576)
def OpenSpec.upto (s : _root_.Go.ChangeSpec) : _root_.Go.OpenSpec := { _root_.Go.OpenSpec.ofChange s with cond := some uptoSmall }

/-- 'lockfastlaw16.SoundTells', WHERE WHAT IT READS IS OF BULK AT MOST 1048576: true; the input reads as it did. -/
def soundTellsUptoRow : OpenClaim := { program := "ytdmmbnnejbmdpaagreatdoor", sum := "82ba3295417121fa2539cbc34a15cb19e83703c77c5c7b962e860510357809cc", func := "lockfast/lockfastlaw16.SoundTells", spec := "soundTells", unfollowed := true, recurses := true, named := ["lockfast/chunk.kindPlace", "lockfast/chunk.classPlace", "lockfast/chunk.lanePlace", "lockfast/chunk.manyPlace", "lockfast/chunk.bitsPlace", "lockfast/class.blocks", "math/bits.deBruijn64tab"], apart := false, laid := [("math/bits.deBruijn64tab", laid_math_bits_deBruijn64tab), ("lockfast/class.blocks", laid_lockfast_class_blocks), ("lockfast/chunk.kindPlace", laid_lockfast_chunk_kindPlace), ("lockfast/chunk.classPlace", laid_lockfast_chunk_classPlace), ("lockfast/chunk.lanePlace", laid_lockfast_chunk_lanePlace), ("lockfast/chunk.manyPlace", laid_lockfast_chunk_manyPlace), ("lockfast/chunk.bitsPlace", laid_lockfast_chunk_bitsPlace)], narrowed := true }
def SoundTellsUptoSaid : Prop := soundTellsUptoRow.holds Tryz.pinned (OpenSpec.upto soundTellsSpec)

/-- 'lockfastlaw16.SoundGiven', WHERE WHAT IT READS IS OF BULK AT MOST 1048576: true; the input reads as it did. -/
def soundGivenUptoRow : OpenClaim := { program := "ytdmmbnnejbmdpaagreatdoor", sum := "82ba3295417121fa2539cbc34a15cb19e83703c77c5c7b962e860510357809cc", func := "lockfast/lockfastlaw16.SoundGiven", spec := "soundGiven", unfollowed := true, recurses := true, named := ["lockfast/chunk.kindPlace", "lockfast/chunk.classPlace", "lockfast/chunk.lanePlace", "lockfast/chunk.manyPlace", "lockfast/chunk.bitsPlace", "lockfast/class.blocks", "math/bits.deBruijn64tab"], apart := false, laid := [("math/bits.deBruijn64tab", laid_math_bits_deBruijn64tab), ("lockfast/class.blocks", laid_lockfast_class_blocks), ("lockfast/chunk.kindPlace", laid_lockfast_chunk_kindPlace), ("lockfast/chunk.classPlace", laid_lockfast_chunk_classPlace), ("lockfast/chunk.lanePlace", laid_lockfast_chunk_lanePlace), ("lockfast/chunk.manyPlace", laid_lockfast_chunk_manyPlace), ("lockfast/chunk.bitsPlace", laid_lockfast_chunk_bitsPlace)], narrowed := true }
def SoundGivenUptoSaid : Prop := soundGivenUptoRow.holds Tryz.pinned (OpenSpec.upto soundGivenSpec)

/-- 'lockfastlaw16.SoundPlaces', WHERE WHAT IT READS IS OF BULK AT MOST 1048576: true; the input reads as it did. -/
def soundPlacesUptoRow : OpenClaim := { program := "ytdmmbnnejbmdpaagreatdoor", sum := "82ba3295417121fa2539cbc34a15cb19e83703c77c5c7b962e860510357809cc", func := "lockfast/lockfastlaw16.SoundPlaces", spec := "soundPlaces", unfollowed := true, recurses := true, named := ["lockfast/chunk.kindPlace", "lockfast/chunk.classPlace", "lockfast/chunk.lanePlace", "lockfast/chunk.manyPlace", "lockfast/chunk.bitsPlace", "lockfast/class.blocks", "math/bits.deBruijn64tab"], apart := false, laid := [("math/bits.deBruijn64tab", laid_math_bits_deBruijn64tab), ("lockfast/class.blocks", laid_lockfast_class_blocks), ("lockfast/chunk.kindPlace", laid_lockfast_chunk_kindPlace), ("lockfast/chunk.classPlace", laid_lockfast_chunk_classPlace), ("lockfast/chunk.lanePlace", laid_lockfast_chunk_lanePlace), ("lockfast/chunk.manyPlace", laid_lockfast_chunk_manyPlace), ("lockfast/chunk.bitsPlace", laid_lockfast_chunk_bitsPlace)], narrowed := true }
def SoundPlacesUptoSaid : Prop := soundPlacesUptoRow.holds Tryz.pinned (OpenSpec.upto soundPlacesSpec)

/-- 'lockfastlaw16.SoundApart', WHERE WHAT IT READS IS OF BULK AT MOST 1048576: true; the input reads as it did. -/
def soundApartUptoRow : OpenClaim := { program := "ytdmmbnnejbmdpaagreatdoor", sum := "82ba3295417121fa2539cbc34a15cb19e83703c77c5c7b962e860510357809cc", func := "lockfast/lockfastlaw16.SoundApart", spec := "soundApart", unfollowed := true, recurses := true, named := ["lockfast/chunk.kindPlace", "lockfast/chunk.classPlace", "lockfast/chunk.lanePlace", "lockfast/chunk.manyPlace", "lockfast/chunk.bitsPlace", "lockfast/class.blocks", "math/bits.deBruijn64tab"], apart := false, laid := [("math/bits.deBruijn64tab", laid_math_bits_deBruijn64tab), ("lockfast/class.blocks", laid_lockfast_class_blocks), ("lockfast/chunk.kindPlace", laid_lockfast_chunk_kindPlace), ("lockfast/chunk.classPlace", laid_lockfast_chunk_classPlace), ("lockfast/chunk.lanePlace", laid_lockfast_chunk_lanePlace), ("lockfast/chunk.manyPlace", laid_lockfast_chunk_manyPlace), ("lockfast/chunk.bitsPlace", laid_lockfast_chunk_bitsPlace)], narrowed := true }
def SoundApartUptoSaid : Prop := soundApartUptoRow.holds Tryz.pinned (OpenSpec.upto soundApartSpec)

/-- 'lockfastlaw16.SoundWords', WHERE WHAT IT READS IS OF BULK AT MOST 1048576: true; the input reads as it did. -/
def soundWordsUptoRow : OpenClaim := { program := "ytdmmbnnejbmdpaagreatdoor", sum := "82ba3295417121fa2539cbc34a15cb19e83703c77c5c7b962e860510357809cc", func := "lockfast/lockfastlaw16.SoundWords", spec := "soundWords", unfollowed := true, recurses := true, named := ["lockfast/chunk.kindPlace", "lockfast/chunk.classPlace", "lockfast/chunk.lanePlace", "lockfast/chunk.manyPlace", "lockfast/chunk.bitsPlace", "lockfast/class.blocks", "math/bits.deBruijn64tab"], apart := false, laid := [("math/bits.deBruijn64tab", laid_math_bits_deBruijn64tab), ("lockfast/class.blocks", laid_lockfast_class_blocks), ("lockfast/chunk.kindPlace", laid_lockfast_chunk_kindPlace), ("lockfast/chunk.classPlace", laid_lockfast_chunk_classPlace), ("lockfast/chunk.lanePlace", laid_lockfast_chunk_lanePlace), ("lockfast/chunk.manyPlace", laid_lockfast_chunk_manyPlace), ("lockfast/chunk.bitsPlace", laid_lockfast_chunk_bitsPlace)], narrowed := true }
def SoundWordsUptoSaid : Prop := soundWordsUptoRow.holds Tryz.pinned (OpenSpec.upto soundWordsSpec)

/-- 'lockfastlaw16.SoundDrops', WHERE WHAT IT READS IS OF BULK AT MOST 1048576: true; the input reads as it did. -/
def soundDropsUptoRow : OpenClaim := { program := "ytdmmbnnejbmdpaagreatdoor", sum := "82ba3295417121fa2539cbc34a15cb19e83703c77c5c7b962e860510357809cc", func := "lockfast/lockfastlaw16.SoundDrops", spec := "soundDrops", unfollowed := true, recurses := true, named := ["lockfast/chunk.kindPlace", "lockfast/chunk.classPlace", "lockfast/chunk.lanePlace", "lockfast/chunk.manyPlace", "lockfast/chunk.bitsPlace", "lockfast/class.blocks", "math/bits.deBruijn64tab"], apart := false, laid := [("math/bits.deBruijn64tab", laid_math_bits_deBruijn64tab), ("lockfast/class.blocks", laid_lockfast_class_blocks), ("lockfast/chunk.kindPlace", laid_lockfast_chunk_kindPlace), ("lockfast/chunk.classPlace", laid_lockfast_chunk_classPlace), ("lockfast/chunk.lanePlace", laid_lockfast_chunk_lanePlace), ("lockfast/chunk.manyPlace", laid_lockfast_chunk_manyPlace), ("lockfast/chunk.bitsPlace", laid_lockfast_chunk_bitsPlace)], narrowed := true }
def SoundDropsUptoSaid : Prop := soundDropsUptoRow.holds Tryz.pinned (OpenSpec.upto soundDropsSpec)

/-- 'lockfastlaw16.SoundTwins', WHERE WHAT IT READS IS OF BULK AT MOST 1048576: true; the input reads as it did. -/
def soundTwinsUptoRow : OpenClaim := { program := "ytdmmbnnejbmdpaagreatdoor", sum := "82ba3295417121fa2539cbc34a15cb19e83703c77c5c7b962e860510357809cc", func := "lockfast/lockfastlaw16.SoundTwins", spec := "soundTwins", unfollowed := true, recurses := true, named := ["lockfast/chunk.kindPlace", "lockfast/chunk.classPlace", "lockfast/chunk.lanePlace", "lockfast/chunk.manyPlace", "lockfast/chunk.bitsPlace", "lockfast/class.blocks", "math/bits.deBruijn64tab"], apart := false, laid := [("math/bits.deBruijn64tab", laid_math_bits_deBruijn64tab), ("lockfast/class.blocks", laid_lockfast_class_blocks), ("lockfast/chunk.kindPlace", laid_lockfast_chunk_kindPlace), ("lockfast/chunk.classPlace", laid_lockfast_chunk_classPlace), ("lockfast/chunk.lanePlace", laid_lockfast_chunk_lanePlace), ("lockfast/chunk.manyPlace", laid_lockfast_chunk_manyPlace), ("lockfast/chunk.bitsPlace", laid_lockfast_chunk_bitsPlace)], narrowed := true }
def SoundTwinsUptoSaid : Prop := soundTwinsUptoRow.holds Tryz.pinned (OpenSpec.upto soundTwinsSpec)

end Rows
end Go.Proofs.YtdmmbnnejbmdpaaGreatDoor
