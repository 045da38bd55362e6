/-
  NARROWER THAN 'FOR EVERY INPUT', by the rows' own cells (each row's printed sentence says how): OidHeaders: laid · OidTexts: laid · OidBack: laid · OidSigns: laid · OidUnlike: laid · ChunkEncodes: laid · ChunkDecodes: laid · ChunkRooms: laid · ChunkBack: laid · ChunkLives: laid · ChunkFills: laid · ChunkUnlike: laid.
  DERIVED. THE GIVEN ROWS OF THIS SEAT. 12 by the template 'for every input the law returns true; each argument reads behind the call as it read before'; 0 by the template 'total and deterministic' (their statements: YtnhbpenejlocaaaDoorTotals.lean).
  GIVEN WITH THE SEED: the statements are not yours to turn. If you find one false, say at which input.
  Laid BY PROGRAM, IN A SANDBOX (cutbox-rows.mjs): the forced cells as the released guide's own fill.sh prints them over the translation 72b1680d70766278… (all of the seat's roots in one cut). By AI agents, Wed Nov 11 2026. No macro, syntax, notation, axiom, sorry.
-/
import Derived.Test.YtnhbpenejlocaaaDoorChecked
import GoSem.PinnedTables
import GoSem.Claim
import GoSem.ClaimJoined
import GoSem.ClaimMapViews
import Derived.JoinedTies
import Derived.KernelRfl
namespace Go.Proofs.YtnhbpenejlocaaaDoor
/- THE CELL 'sum', in the pinned program and in every row, IS THE sha256 OF THE DUMP (.gsa) THAT YtnhbpenejlocaaaDoorProg.lean LOADS. Nothing in Lean hashes anything: it is a label: what it is worth is what the hold of that sum in a sandbox is worth. -/
noncomputable def Tryd.pinned : Pinned := { name := "ytnhbpenejlocaaadoor", sum := "72b1680d707662788018dee639ae351c247b26bd2e25e554076898e38b5059d1", checked := Tryd.checked }
namespace Rows
def none {H : Type} : Left H := { results := [], args := [] }

/- WHAT THE LISTED PACKAGE-LEVEL VARIABLES READ AS WHEN THE CALL BEGINS. Each datum BY PROGRAM (the guide's laid-datum.mjs) off the statement by which the dump's own 'gosem.cut.vars' lays the variable. In a bare row this is a premise. The card (YtnhbpenejlocaaaDoorCards.lean) ties it to the program's text. -/
def laid_math_bits_deBruijn32tab {H : Type} : DataW H := .agg [.lit (.int .u8 0), .lit (.int .u8 1), .lit (.int .u8 28), .lit (.int .u8 2), .lit (.int .u8 29), .lit (.int .u8 14), .lit (.int .u8 24), .lit (.int .u8 3), .lit (.int .u8 30), .lit (.int .u8 22), .lit (.int .u8 20), .lit (.int .u8 15), .lit (.int .u8 25), .lit (.int .u8 17), .lit (.int .u8 4), .lit (.int .u8 8), .lit (.int .u8 31), .lit (.int .u8 27), .lit (.int .u8 13), .lit (.int .u8 23), .lit (.int .u8 21), .lit (.int .u8 19), .lit (.int .u8 16), .lit (.int .u8 7), .lit (.int .u8 26), .lit (.int .u8 12), .lit (.int .u8 18), .lit (.int .u8 6), .lit (.int .u8 11), .lit (.int .u8 5), .lit (.int .u8 10), .lit (.int .u8 9)]
def laid_math_bits_deBruijn64tab {H : Type} : DataW H := .agg [.lit (.int .u8 0), .lit (.int .u8 1), .lit (.int .u8 56), .lit (.int .u8 2), .lit (.int .u8 57), .lit (.int .u8 49), .lit (.int .u8 28), .lit (.int .u8 3), .lit (.int .u8 61), .lit (.int .u8 58), .lit (.int .u8 42), .lit (.int .u8 50), .lit (.int .u8 38), .lit (.int .u8 29), .lit (.int .u8 17), .lit (.int .u8 4), .lit (.int .u8 62), .lit (.int .u8 47), .lit (.int .u8 59), .lit (.int .u8 36), .lit (.int .u8 45), .lit (.int .u8 43), .lit (.int .u8 51), .lit (.int .u8 22), .lit (.int .u8 53), .lit (.int .u8 39), .lit (.int .u8 33), .lit (.int .u8 30), .lit (.int .u8 24), .lit (.int .u8 18), .lit (.int .u8 12), .lit (.int .u8 5), .lit (.int .u8 63), .lit (.int .u8 55), .lit (.int .u8 48), .lit (.int .u8 27), .lit (.int .u8 60), .lit (.int .u8 41), .lit (.int .u8 37), .lit (.int .u8 16), .lit (.int .u8 46), .lit (.int .u8 35), .lit (.int .u8 44), .lit (.int .u8 21), .lit (.int .u8 52), .lit (.int .u8 32), .lit (.int .u8 23), .lit (.int .u8 11), .lit (.int .u8 54), .lit (.int .u8 26), .lit (.int .u8 40), .lit (.int .u8 15), .lit (.int .u8 34), .lit (.int .u8 20), .lit (.int .u8 31), .lit (.int .u8 10), .lit (.int .u8 25), .lit (.int .u8 14), .lit (.int .u8 19), .lit (.int .u8 9), .lit (.int .u8 13), .lit (.int .u8 8), .lit (.int .u8 7), .lit (.int .u8 6)]
def laid_internal_strconv_uint64pow10 {H : Type} : DataW H := .agg [.lit (.int .u64 1), .lit (.int .u64 10), .lit (.int .u64 100), .lit (.int .u64 1000), .lit (.int .u64 10000), .lit (.int .u64 100000), .lit (.int .u64 1000000), .lit (.int .u64 10000000), .lit (.int .u64 100000000), .lit (.int .u64 1000000000), .lit (.int .u64 10000000000), .lit (.int .u64 100000000000), .lit (.int .u64 1000000000000), .lit (.int .u64 10000000000000), .lit (.int .u64 100000000000000), .lit (.int .u64 1000000000000000), .lit (.int .u64 10000000000000000), .lit (.int .u64 100000000000000000), .lit (.int .u64 1000000000000000000), .lit (.int .u64 10000000000000000000)]
def laid_unicode_utf8_acceptRanges {H : Type} : DataW H := .agg [.agg [.lit (.int .u8 128), .lit (.int .u8 191)], .agg [.lit (.int .u8 160), .lit (.int .u8 191)], .agg [.lit (.int .u8 128), .lit (.int .u8 159)], .agg [.lit (.int .u8 144), .lit (.int .u8 191)], .agg [.lit (.int .u8 128), .lit (.int .u8 143)], .agg [.lit (.int .u8 0), .lit (.int .u8 0)], .agg [.lit (.int .u8 0), .lit (.int .u8 0)], .agg [.lit (.int .u8 0), .lit (.int .u8 0)], .agg [.lit (.int .u8 0), .lit (.int .u8 0)], .agg [.lit (.int .u8 0), .lit (.int .u8 0)], .agg [.lit (.int .u8 0), .lit (.int .u8 0)], .agg [.lit (.int .u8 0), .lit (.int .u8 0)], .agg [.lit (.int .u8 0), .lit (.int .u8 0)], .agg [.lit (.int .u8 0), .lit (.int .u8 0)], .agg [.lit (.int .u8 0), .lit (.int .u8 0)], .agg [.lit (.int .u8 0), .lit (.int .u8 0)]]
/-- One of Go's own tables, pinned by name: the form's constant. -/
def laid_unicode_utf8_first : DataW Unit := Go.Pinned.utf8First
def laid_lockfast_class_blocks {H : Type} : DataW H := .agg [.lit (.int .i64 4), .lit (.int .i64 8), .lit (.int .i64 16)]
def laid_lockfast_chunk_kindPlace {H : Type} : DataW H := .agg [.lit (.int .i64 0), .lit (.int .i64 3)]
def laid_lockfast_chunk_classPlace {H : Type} : DataW H := .agg [.lit (.int .i64 3), .lit (.int .i64 2)]
def laid_lockfast_chunk_lanePlace {H : Type} : DataW H := .agg [.lit (.int .i64 5), .lit (.int .i64 6)]
def laid_lockfast_chunk_manyPlace {H : Type} : DataW H := .agg [.lit (.int .i64 11), .lit (.int .i64 13)]
def laid_lockfast_chunk_bitsPlace {H : Type} : DataW H := .agg [.lit (.int .i64 24), .lit (.int .i64 8)]

/-- 'lockfastlaw08.OidHeaders': WHATEVER THE INPUT: true; the input reads as it did. -/
def oidHeadersSpec : ChangeSpec := { name := "oidHeaders", fn := fun _ => fun
  | [d1, d2] => { results := [.lit (.bool true)], args := [d1, d2] }
  | _ => none }
def oidHeadersRow : OpenClaim := { program := "ytnhbpenejlocaaadoor", sum := "72b1680d707662788018dee639ae351c247b26bd2e25e554076898e38b5059d1", func := "lockfast/lockfastlaw08.OidHeaders", spec := "oidHeaders", inPlace := ["internal/bytealg.CountString", "internal/bytealg.IndexByteString", "internal/bytealg.IndexString"], named := ["unicode/utf8.first", "unicode/utf8.acceptRanges", "internal/bytealg.MaxLen", "internal/strconv.uint64pow10", "math/bits.deBruijn32tab", "math/bits.deBruijn64tab"], apart := false, laid := [("math/bits.deBruijn32tab", laid_math_bits_deBruijn32tab), ("math/bits.deBruijn64tab", laid_math_bits_deBruijn64tab), ("internal/strconv.uint64pow10", laid_internal_strconv_uint64pow10), ("unicode/utf8.acceptRanges", laid_unicode_utf8_acceptRanges), ("unicode/utf8.first", laid_unicode_utf8_first)] }
def OidHeadersSaid : Prop := oidHeadersRow.holds Tryd.pinned (OpenSpec.ofChange oidHeadersSpec)

/-- ITS FALSE NEIGHBOUR: 'it returns false'. Refute it at one input. -/
def oidHeadersWrong : ChangeSpec := { name := "oidHeaders", fn := fun _ => fun
  | [d1, d2] => { results := [.lit (.bool false)], args := [d1, d2] }
  | _ => none }
def OidHeadersWrongFalsely : Prop := oidHeadersRow.holds Tryd.pinned (OpenSpec.ofChange oidHeadersWrong)

/-- 'lockfastlaw08.OidTexts': WHATEVER THE INPUT: true; the input reads as it did. -/
def oidTextsSpec : ChangeSpec := { name := "oidTexts", fn := fun _ => fun
  | [d1, d2, d3, d4] => { results := [.lit (.bool true)], args := [d1, d2, d3, d4] }
  | _ => none }
def oidTextsRow : OpenClaim := { program := "ytnhbpenejlocaaadoor", sum := "72b1680d707662788018dee639ae351c247b26bd2e25e554076898e38b5059d1", func := "lockfast/lockfastlaw08.OidTexts", spec := "oidTexts", inPlace := ["internal/bytealg.CountString", "internal/bytealg.IndexByteString", "internal/bytealg.IndexString"], named := ["unicode/utf8.first", "unicode/utf8.acceptRanges", "internal/bytealg.MaxLen", "internal/strconv.uint64pow10", "math/bits.deBruijn32tab", "math/bits.deBruijn64tab"], apart := false, laid := [("math/bits.deBruijn32tab", laid_math_bits_deBruijn32tab), ("math/bits.deBruijn64tab", laid_math_bits_deBruijn64tab), ("internal/strconv.uint64pow10", laid_internal_strconv_uint64pow10), ("unicode/utf8.acceptRanges", laid_unicode_utf8_acceptRanges), ("unicode/utf8.first", laid_unicode_utf8_first)] }
def OidTextsSaid : Prop := oidTextsRow.holds Tryd.pinned (OpenSpec.ofChange oidTextsSpec)

/-- ITS FALSE NEIGHBOUR: 'it returns false'. Refute it at one input. -/
def oidTextsWrong : ChangeSpec := { name := "oidTexts", fn := fun _ => fun
  | [d1, d2, d3, d4] => { results := [.lit (.bool false)], args := [d1, d2, d3, d4] }
  | _ => none }
def OidTextsWrongFalsely : Prop := oidTextsRow.holds Tryd.pinned (OpenSpec.ofChange oidTextsWrong)

/-- 'lockfastlaw08.OidBack': WHATEVER THE INPUT: true; the input reads as it did. -/
def oidBackSpec : ChangeSpec := { name := "oidBack", fn := fun _ => fun
  | [d1, d2, d3] => { results := [.lit (.bool true)], args := [d1, d2, d3] }
  | _ => none }
def oidBackRow : OpenClaim := { program := "ytnhbpenejlocaaadoor", sum := "72b1680d707662788018dee639ae351c247b26bd2e25e554076898e38b5059d1", func := "lockfast/lockfastlaw08.OidBack", spec := "oidBack", inPlace := ["internal/bytealg.CountString", "internal/bytealg.IndexByteString", "internal/bytealg.IndexString"], named := ["unicode/utf8.first", "unicode/utf8.acceptRanges", "internal/bytealg.MaxLen", "internal/strconv.uint64pow10", "math/bits.deBruijn32tab", "math/bits.deBruijn64tab"], apart := false, laid := [("math/bits.deBruijn32tab", laid_math_bits_deBruijn32tab), ("math/bits.deBruijn64tab", laid_math_bits_deBruijn64tab), ("internal/strconv.uint64pow10", laid_internal_strconv_uint64pow10), ("unicode/utf8.acceptRanges", laid_unicode_utf8_acceptRanges), ("unicode/utf8.first", laid_unicode_utf8_first)] }
def OidBackSaid : Prop := oidBackRow.holds Tryd.pinned (OpenSpec.ofChange oidBackSpec)

/-- ITS FALSE NEIGHBOUR: 'it returns false'. Refute it at one input. -/
def oidBackWrong : ChangeSpec := { name := "oidBack", fn := fun _ => fun
  | [d1, d2, d3] => { results := [.lit (.bool false)], args := [d1, d2, d3] }
  | _ => none }
def OidBackWrongFalsely : Prop := oidBackRow.holds Tryd.pinned (OpenSpec.ofChange oidBackWrong)

/-- 'lockfastlaw08.OidSigns': WHATEVER THE INPUT: true; the input reads as it did. -/
def oidSignsSpec : ChangeSpec := { name := "oidSigns", fn := fun _ => fun
  | [d1, d2] => { results := [.lit (.bool true)], args := [d1, d2] }
  | _ => none }
def oidSignsRow : OpenClaim := { program := "ytnhbpenejlocaaadoor", sum := "72b1680d707662788018dee639ae351c247b26bd2e25e554076898e38b5059d1", func := "lockfast/lockfastlaw08.OidSigns", spec := "oidSigns", inPlace := ["internal/bytealg.CountString", "internal/bytealg.IndexByteString", "internal/bytealg.IndexString"], named := ["unicode/utf8.first", "unicode/utf8.acceptRanges", "internal/bytealg.MaxLen", "internal/strconv.uint64pow10", "math/bits.deBruijn32tab", "math/bits.deBruijn64tab"], apart := false, laid := [("math/bits.deBruijn32tab", laid_math_bits_deBruijn32tab), ("math/bits.deBruijn64tab", laid_math_bits_deBruijn64tab), ("internal/strconv.uint64pow10", laid_internal_strconv_uint64pow10), ("unicode/utf8.acceptRanges", laid_unicode_utf8_acceptRanges), ("unicode/utf8.first", laid_unicode_utf8_first)] }
def OidSignsSaid : Prop := oidSignsRow.holds Tryd.pinned (OpenSpec.ofChange oidSignsSpec)

/-- ITS FALSE NEIGHBOUR: 'it returns false'. Refute it at one input. -/
def oidSignsWrong : ChangeSpec := { name := "oidSigns", fn := fun _ => fun
  | [d1, d2] => { results := [.lit (.bool false)], args := [d1, d2] }
  | _ => none }
def OidSignsWrongFalsely : Prop := oidSignsRow.holds Tryd.pinned (OpenSpec.ofChange oidSignsWrong)

/-- 'lockfastlaw08.OidUnlike': WHATEVER THE INPUT: true; the input reads as it did. -/
def oidUnlikeSpec : ChangeSpec := { name := "oidUnlike", fn := fun _ => fun
  | [d1, d2, d3, d4] => { results := [.lit (.bool true)], args := [d1, d2, d3, d4] }
  | _ => none }
def oidUnlikeRow : OpenClaim := { program := "ytnhbpenejlocaaadoor", sum := "72b1680d707662788018dee639ae351c247b26bd2e25e554076898e38b5059d1", func := "lockfast/lockfastlaw08.OidUnlike", spec := "oidUnlike", inPlace := ["internal/bytealg.CountString", "internal/bytealg.IndexByteString", "internal/bytealg.IndexString"], named := ["unicode/utf8.first", "unicode/utf8.acceptRanges", "internal/bytealg.MaxLen", "internal/strconv.uint64pow10", "math/bits.deBruijn32tab", "math/bits.deBruijn64tab"], apart := false, laid := [("math/bits.deBruijn32tab", laid_math_bits_deBruijn32tab), ("math/bits.deBruijn64tab", laid_math_bits_deBruijn64tab), ("internal/strconv.uint64pow10", laid_internal_strconv_uint64pow10), ("unicode/utf8.acceptRanges", laid_unicode_utf8_acceptRanges), ("unicode/utf8.first", laid_unicode_utf8_first)] }
def OidUnlikeSaid : Prop := oidUnlikeRow.holds Tryd.pinned (OpenSpec.ofChange oidUnlikeSpec)

/-- ITS FALSE NEIGHBOUR: 'it returns false'. Refute it at one input. -/
def oidUnlikeWrong : ChangeSpec := { name := "oidUnlike", fn := fun _ => fun
  | [d1, d2, d3, d4] => { results := [.lit (.bool false)], args := [d1, d2, d3, d4] }
  | _ => none }
def OidUnlikeWrongFalsely : Prop := oidUnlikeRow.holds Tryd.pinned (OpenSpec.ofChange oidUnlikeWrong)

/-- 'lockfastlaw10.ChunkEncodes': WHATEVER THE INPUT: true; the input reads as it did. -/
def chunkEncodesSpec : ChangeSpec := { name := "chunkEncodes", fn := fun _ => fun
  | [d] => { results := [.lit (.bool true)], args := [d] }
  | _ => none }
def chunkEncodesRow : OpenClaim := { program := "ytnhbpenejlocaaadoor", sum := "72b1680d707662788018dee639ae351c247b26bd2e25e554076898e38b5059d1", func := "lockfast/lockfastlaw10.ChunkEncodes", spec := "chunkEncodes", unfollowed := true, recurses := true, named := ["lockfast/class.blocks", "lockfast/chunk.kindPlace", "lockfast/chunk.classPlace", "lockfast/chunk.lanePlace", "lockfast/chunk.manyPlace", "lockfast/chunk.bitsPlace", "math/bits.deBruijn64tab"], apart := false, laid := [("math/bits.deBruijn64tab", laid_math_bits_deBruijn64tab), ("lockfast/class.blocks", laid_lockfast_class_blocks), ("lockfast/chunk.kindPlace", laid_lockfast_chunk_kindPlace), ("lockfast/chunk.classPlace", laid_lockfast_chunk_classPlace), ("lockfast/chunk.lanePlace", laid_lockfast_chunk_lanePlace), ("lockfast/chunk.manyPlace", laid_lockfast_chunk_manyPlace), ("lockfast/chunk.bitsPlace", laid_lockfast_chunk_bitsPlace)] }
def ChunkEncodesSaid : Prop := chunkEncodesRow.holds Tryd.pinned (OpenSpec.ofChange chunkEncodesSpec)

/-- ITS FALSE NEIGHBOUR: 'it returns false'. Refute it at one input. -/
def chunkEncodesWrong : ChangeSpec := { name := "chunkEncodes", fn := fun _ => fun
  | [d] => { results := [.lit (.bool false)], args := [d] }
  | _ => none }
def ChunkEncodesWrongFalsely : Prop := chunkEncodesRow.holds Tryd.pinned (OpenSpec.ofChange chunkEncodesWrong)

/-- 'lockfastlaw10.ChunkDecodes': WHATEVER THE INPUT: true; the input reads as it did. -/
def chunkDecodesSpec : ChangeSpec := { name := "chunkDecodes", fn := fun _ => fun
  | [d] => { results := [.lit (.bool true)], args := [d] }
  | _ => none }
def chunkDecodesRow : OpenClaim := { program := "ytnhbpenejlocaaadoor", sum := "72b1680d707662788018dee639ae351c247b26bd2e25e554076898e38b5059d1", func := "lockfast/lockfastlaw10.ChunkDecodes", spec := "chunkDecodes", unfollowed := true, recurses := true, named := ["lockfast/class.blocks", "lockfast/chunk.kindPlace", "lockfast/chunk.classPlace", "lockfast/chunk.lanePlace", "lockfast/chunk.manyPlace", "lockfast/chunk.bitsPlace", "math/bits.deBruijn64tab"], apart := false, laid := [("math/bits.deBruijn64tab", laid_math_bits_deBruijn64tab), ("lockfast/class.blocks", laid_lockfast_class_blocks), ("lockfast/chunk.kindPlace", laid_lockfast_chunk_kindPlace), ("lockfast/chunk.classPlace", laid_lockfast_chunk_classPlace), ("lockfast/chunk.lanePlace", laid_lockfast_chunk_lanePlace), ("lockfast/chunk.manyPlace", laid_lockfast_chunk_manyPlace), ("lockfast/chunk.bitsPlace", laid_lockfast_chunk_bitsPlace)] }
def ChunkDecodesSaid : Prop := chunkDecodesRow.holds Tryd.pinned (OpenSpec.ofChange chunkDecodesSpec)

/-- ITS FALSE NEIGHBOUR: 'it returns false'. Refute it at one input. -/
def chunkDecodesWrong : ChangeSpec := { name := "chunkDecodes", fn := fun _ => fun
  | [d] => { results := [.lit (.bool false)], args := [d] }
  | _ => none }
def ChunkDecodesWrongFalsely : Prop := chunkDecodesRow.holds Tryd.pinned (OpenSpec.ofChange chunkDecodesWrong)

/-- 'lockfastlaw10.ChunkRooms': WHATEVER THE INPUT: true; the input reads as it did. -/
def chunkRoomsSpec : ChangeSpec := { name := "chunkRooms", fn := fun _ => fun
  | [d1, d2] => { results := [.lit (.bool true)], args := [d1, d2] }
  | _ => none }
def chunkRoomsRow : OpenClaim := { program := "ytnhbpenejlocaaadoor", sum := "72b1680d707662788018dee639ae351c247b26bd2e25e554076898e38b5059d1", func := "lockfast/lockfastlaw10.ChunkRooms", spec := "chunkRooms", unfollowed := true, recurses := true, named := ["lockfast/class.blocks", "lockfast/chunk.kindPlace", "lockfast/chunk.classPlace", "lockfast/chunk.lanePlace", "lockfast/chunk.manyPlace", "lockfast/chunk.bitsPlace", "math/bits.deBruijn64tab"], apart := false, laid := [("math/bits.deBruijn64tab", laid_math_bits_deBruijn64tab), ("lockfast/class.blocks", laid_lockfast_class_blocks), ("lockfast/chunk.kindPlace", laid_lockfast_chunk_kindPlace), ("lockfast/chunk.classPlace", laid_lockfast_chunk_classPlace), ("lockfast/chunk.lanePlace", laid_lockfast_chunk_lanePlace), ("lockfast/chunk.manyPlace", laid_lockfast_chunk_manyPlace), ("lockfast/chunk.bitsPlace", laid_lockfast_chunk_bitsPlace)] }
def ChunkRoomsSaid : Prop := chunkRoomsRow.holds Tryd.pinned (OpenSpec.ofChange chunkRoomsSpec)

/-- ITS FALSE NEIGHBOUR: 'it returns false'. Refute it at one input. -/
def chunkRoomsWrong : ChangeSpec := { name := "chunkRooms", fn := fun _ => fun
  | [d1, d2] => { results := [.lit (.bool false)], args := [d1, d2] }
  | _ => none }
def ChunkRoomsWrongFalsely : Prop := chunkRoomsRow.holds Tryd.pinned (OpenSpec.ofChange chunkRoomsWrong)

/-- 'lockfastlaw10.ChunkBack': WHATEVER THE INPUT: true; the input reads as it did. -/
def chunkBackSpec : ChangeSpec := { name := "chunkBack", fn := fun _ => fun
  | [d1, d2] => { results := [.lit (.bool true)], args := [d1, d2] }
  | _ => none }
def chunkBackRow : OpenClaim := { program := "ytnhbpenejlocaaadoor", sum := "72b1680d707662788018dee639ae351c247b26bd2e25e554076898e38b5059d1", func := "lockfast/lockfastlaw10.ChunkBack", spec := "chunkBack", unfollowed := true, recurses := true, named := ["lockfast/class.blocks", "lockfast/chunk.kindPlace", "lockfast/chunk.classPlace", "lockfast/chunk.lanePlace", "lockfast/chunk.manyPlace", "lockfast/chunk.bitsPlace", "math/bits.deBruijn64tab"], apart := false, laid := [("math/bits.deBruijn64tab", laid_math_bits_deBruijn64tab), ("lockfast/class.blocks", laid_lockfast_class_blocks), ("lockfast/chunk.kindPlace", laid_lockfast_chunk_kindPlace), ("lockfast/chunk.classPlace", laid_lockfast_chunk_classPlace), ("lockfast/chunk.lanePlace", laid_lockfast_chunk_lanePlace), ("lockfast/chunk.manyPlace", laid_lockfast_chunk_manyPlace), ("lockfast/chunk.bitsPlace", laid_lockfast_chunk_bitsPlace)] }
def ChunkBackSaid : Prop := chunkBackRow.holds Tryd.pinned (OpenSpec.ofChange chunkBackSpec)

/-- ITS FALSE NEIGHBOUR: 'it returns false'. Refute it at one input. -/
def chunkBackWrong : ChangeSpec := { name := "chunkBack", fn := fun _ => fun
  | [d1, d2] => { results := [.lit (.bool false)], args := [d1, d2] }
  | _ => none }
def ChunkBackWrongFalsely : Prop := chunkBackRow.holds Tryd.pinned (OpenSpec.ofChange chunkBackWrong)

/-- 'lockfastlaw10.ChunkLives': WHATEVER THE INPUT: true; the input reads as it did. -/
def chunkLivesSpec : ChangeSpec := { name := "chunkLives", fn := fun _ => fun
  | [d1, d2, d3] => { results := [.lit (.bool true)], args := [d1, d2, d3] }
  | _ => none }
def chunkLivesRow : OpenClaim := { program := "ytnhbpenejlocaaadoor", sum := "72b1680d707662788018dee639ae351c247b26bd2e25e554076898e38b5059d1", func := "lockfast/lockfastlaw10.ChunkLives", spec := "chunkLives", unfollowed := true, recurses := true, named := ["lockfast/class.blocks", "lockfast/chunk.kindPlace", "lockfast/chunk.classPlace", "lockfast/chunk.lanePlace", "lockfast/chunk.manyPlace", "lockfast/chunk.bitsPlace", "math/bits.deBruijn64tab"], apart := false, laid := [("math/bits.deBruijn64tab", laid_math_bits_deBruijn64tab), ("lockfast/class.blocks", laid_lockfast_class_blocks), ("lockfast/chunk.kindPlace", laid_lockfast_chunk_kindPlace), ("lockfast/chunk.classPlace", laid_lockfast_chunk_classPlace), ("lockfast/chunk.lanePlace", laid_lockfast_chunk_lanePlace), ("lockfast/chunk.manyPlace", laid_lockfast_chunk_manyPlace), ("lockfast/chunk.bitsPlace", laid_lockfast_chunk_bitsPlace)] }
def ChunkLivesSaid : Prop := chunkLivesRow.holds Tryd.pinned (OpenSpec.ofChange chunkLivesSpec)

/-- ITS FALSE NEIGHBOUR: 'it returns false'. Refute it at one input. -/
def chunkLivesWrong : ChangeSpec := { name := "chunkLives", fn := fun _ => fun
  | [d1, d2, d3] => { results := [.lit (.bool false)], args := [d1, d2, d3] }
  | _ => none }
def ChunkLivesWrongFalsely : Prop := chunkLivesRow.holds Tryd.pinned (OpenSpec.ofChange chunkLivesWrong)

/-- 'lockfastlaw10.ChunkFills': WHATEVER THE INPUT: true; the input reads as it did. -/
def chunkFillsSpec : ChangeSpec := { name := "chunkFills", fn := fun _ => fun
  | [d] => { results := [.lit (.bool true)], args := [d] }
  | _ => none }
def chunkFillsRow : OpenClaim := { program := "ytnhbpenejlocaaadoor", sum := "72b1680d707662788018dee639ae351c247b26bd2e25e554076898e38b5059d1", func := "lockfast/lockfastlaw10.ChunkFills", spec := "chunkFills", unfollowed := true, recurses := true, named := ["lockfast/class.blocks", "lockfast/chunk.kindPlace", "lockfast/chunk.classPlace", "lockfast/chunk.lanePlace", "lockfast/chunk.manyPlace", "lockfast/chunk.bitsPlace", "math/bits.deBruijn64tab"], apart := false, laid := [("math/bits.deBruijn64tab", laid_math_bits_deBruijn64tab), ("lockfast/class.blocks", laid_lockfast_class_blocks), ("lockfast/chunk.kindPlace", laid_lockfast_chunk_kindPlace), ("lockfast/chunk.classPlace", laid_lockfast_chunk_classPlace), ("lockfast/chunk.lanePlace", laid_lockfast_chunk_lanePlace), ("lockfast/chunk.manyPlace", laid_lockfast_chunk_manyPlace), ("lockfast/chunk.bitsPlace", laid_lockfast_chunk_bitsPlace)] }
def ChunkFillsSaid : Prop := chunkFillsRow.holds Tryd.pinned (OpenSpec.ofChange chunkFillsSpec)

/-- ITS FALSE NEIGHBOUR: 'it returns false'. Refute it at one input. -/
def chunkFillsWrong : ChangeSpec := { name := "chunkFills", fn := fun _ => fun
  | [d] => { results := [.lit (.bool false)], args := [d] }
  | _ => none }
def ChunkFillsWrongFalsely : Prop := chunkFillsRow.holds Tryd.pinned (OpenSpec.ofChange chunkFillsWrong)

/-- 'lockfastlaw10.ChunkUnlike': WHATEVER THE INPUT: true; the input reads as it did. -/
def chunkUnlikeSpec : ChangeSpec := { name := "chunkUnlike", fn := fun _ => fun
  | [d1, d2] => { results := [.lit (.bool true)], args := [d1, d2] }
  | _ => none }
def chunkUnlikeRow : OpenClaim := { program := "ytnhbpenejlocaaadoor", sum := "72b1680d707662788018dee639ae351c247b26bd2e25e554076898e38b5059d1", func := "lockfast/lockfastlaw10.ChunkUnlike", spec := "chunkUnlike", unfollowed := true, recurses := true, named := ["lockfast/class.blocks", "lockfast/chunk.kindPlace", "lockfast/chunk.classPlace", "lockfast/chunk.lanePlace", "lockfast/chunk.manyPlace", "lockfast/chunk.bitsPlace", "math/bits.deBruijn64tab"], apart := false, laid := [("math/bits.deBruijn64tab", laid_math_bits_deBruijn64tab), ("lockfast/class.blocks", laid_lockfast_class_blocks), ("lockfast/chunk.kindPlace", laid_lockfast_chunk_kindPlace), ("lockfast/chunk.classPlace", laid_lockfast_chunk_classPlace), ("lockfast/chunk.lanePlace", laid_lockfast_chunk_lanePlace), ("lockfast/chunk.manyPlace", laid_lockfast_chunk_manyPlace), ("lockfast/chunk.bitsPlace", laid_lockfast_chunk_bitsPlace)] }
def ChunkUnlikeSaid : Prop := chunkUnlikeRow.holds Tryd.pinned (OpenSpec.ofChange chunkUnlikeSpec)

/-- ITS FALSE NEIGHBOUR: 'it returns false'. Refute it at one input. -/
def chunkUnlikeWrong : ChangeSpec := { name := "chunkUnlike", fn := fun _ => fun
  | [d1, d2] => { results := [.lit (.bool false)], args := [d1, d2] }
  | _ => none }
def ChunkUnlikeWrongFalsely : Prop := chunkUnlikeRow.holds Tryd.pinned (OpenSpec.ofChange chunkUnlikeWrong)

/- THE SECOND FORM. 'bulk': how many values and letters a reading holds, each counted each time it is reached (what is shared counts as often as it is met; a slice's spare places count too). A statement '..UptoSaid' is the law's where the arguments, and the package variables that the reading takes, are together of bulk at most 1048576: NARROWER than '..Said'. Prove '..Said' where nothing that the law and all that it calls make is longer than what came in: it says more and counts as full. Else prove '..UptoSaid'. A law counts once. -/
mutual
def uptoBulk {H : Type} : DataW H → Nat
  | .lit (.string bytes) => bytes.length + 1
  | .lit _ => 1
  | .nil => 1
  | .ptr d => uptoBulk d + 1
  | .slice elems spare => uptoBulkAll elems + uptoBulkAll spare + 1
  | .agg parts => uptoBulkAll parts + 1
  | .iface _ d => uptoBulk d + 1
  | .map entries => uptoBulkEntries entries + 1
  | .held _ => 1
def uptoBulkAll {H : Type} : List (DataW H) → Nat
  | [] => 0
  | d :: r => uptoBulk d + uptoBulkAll r
def uptoBulkEntries {H : Type} : List (Lit × DataW H) → Nat
  | [] => 0
  | x :: r => uptoBulkEntry x + uptoBulkEntries r
def uptoBulkEntry {H : Type} : Lit × DataW H → Nat
  | (.string bytes, d) => bytes.length + uptoBulk d + 1
  | (_, d) => uptoBulk d + 1
 end
def uptoSmall : (H : Type) → List (DataW H) → Bool := fun _ ds => decide (uptoBulkAll ds ≤ 1048576)
def OpenSpec.upto (s : _root_.Go.ChangeSpec) : _root_.Go.OpenSpec := { _root_.Go.OpenSpec.ofChange s with cond := some uptoSmall }

/-- 'lockfastlaw08.OidHeaders', WHERE WHAT IT READS IS OF BULK AT MOST 1048576: true; the input reads as it did. -/
def oidHeadersUptoRow : OpenClaim := { program := "ytnhbpenejlocaaadoor", sum := "72b1680d707662788018dee639ae351c247b26bd2e25e554076898e38b5059d1", func := "lockfast/lockfastlaw08.OidHeaders", spec := "oidHeaders", inPlace := ["internal/bytealg.CountString", "internal/bytealg.IndexByteString", "internal/bytealg.IndexString"], named := ["unicode/utf8.first", "unicode/utf8.acceptRanges", "internal/bytealg.MaxLen", "internal/strconv.uint64pow10", "math/bits.deBruijn32tab", "math/bits.deBruijn64tab"], apart := false, laid := [("math/bits.deBruijn32tab", laid_math_bits_deBruijn32tab), ("math/bits.deBruijn64tab", laid_math_bits_deBruijn64tab), ("internal/strconv.uint64pow10", laid_internal_strconv_uint64pow10), ("unicode/utf8.acceptRanges", laid_unicode_utf8_acceptRanges), ("unicode/utf8.first", laid_unicode_utf8_first)], narrowed := true }
def OidHeadersUptoSaid : Prop := oidHeadersUptoRow.holds Tryd.pinned (OpenSpec.upto oidHeadersSpec)

/-- 'lockfastlaw08.OidTexts', WHERE WHAT IT READS IS OF BULK AT MOST 1048576: true; the input reads as it did. -/
def oidTextsUptoRow : OpenClaim := { program := "ytnhbpenejlocaaadoor", sum := "72b1680d707662788018dee639ae351c247b26bd2e25e554076898e38b5059d1", func := "lockfast/lockfastlaw08.OidTexts", spec := "oidTexts", inPlace := ["internal/bytealg.CountString", "internal/bytealg.IndexByteString", "internal/bytealg.IndexString"], named := ["unicode/utf8.first", "unicode/utf8.acceptRanges", "internal/bytealg.MaxLen", "internal/strconv.uint64pow10", "math/bits.deBruijn32tab", "math/bits.deBruijn64tab"], apart := false, laid := [("math/bits.deBruijn32tab", laid_math_bits_deBruijn32tab), ("math/bits.deBruijn64tab", laid_math_bits_deBruijn64tab), ("internal/strconv.uint64pow10", laid_internal_strconv_uint64pow10), ("unicode/utf8.acceptRanges", laid_unicode_utf8_acceptRanges), ("unicode/utf8.first", laid_unicode_utf8_first)], narrowed := true }
def OidTextsUptoSaid : Prop := oidTextsUptoRow.holds Tryd.pinned (OpenSpec.upto oidTextsSpec)

/-- 'lockfastlaw08.OidBack', WHERE WHAT IT READS IS OF BULK AT MOST 1048576: true; the input reads as it did. -/
def oidBackUptoRow : OpenClaim := { program := "ytnhbpenejlocaaadoor", sum := "72b1680d707662788018dee639ae351c247b26bd2e25e554076898e38b5059d1", func := "lockfast/lockfastlaw08.OidBack", spec := "oidBack", inPlace := ["internal/bytealg.CountString", "internal/bytealg.IndexByteString", "internal/bytealg.IndexString"], named := ["unicode/utf8.first", "unicode/utf8.acceptRanges", "internal/bytealg.MaxLen", "internal/strconv.uint64pow10", "math/bits.deBruijn32tab", "math/bits.deBruijn64tab"], apart := false, laid := [("math/bits.deBruijn32tab", laid_math_bits_deBruijn32tab), ("math/bits.deBruijn64tab", laid_math_bits_deBruijn64tab), ("internal/strconv.uint64pow10", laid_internal_strconv_uint64pow10), ("unicode/utf8.acceptRanges", laid_unicode_utf8_acceptRanges), ("unicode/utf8.first", laid_unicode_utf8_first)], narrowed := true }
def OidBackUptoSaid : Prop := oidBackUptoRow.holds Tryd.pinned (OpenSpec.upto oidBackSpec)

/-- 'lockfastlaw08.OidSigns', WHERE WHAT IT READS IS OF BULK AT MOST 1048576: true; the input reads as it did. -/
def oidSignsUptoRow : OpenClaim := { program := "ytnhbpenejlocaaadoor", sum := "72b1680d707662788018dee639ae351c247b26bd2e25e554076898e38b5059d1", func := "lockfast/lockfastlaw08.OidSigns", spec := "oidSigns", inPlace := ["internal/bytealg.CountString", "internal/bytealg.IndexByteString", "internal/bytealg.IndexString"], named := ["unicode/utf8.first", "unicode/utf8.acceptRanges", "internal/bytealg.MaxLen", "internal/strconv.uint64pow10", "math/bits.deBruijn32tab", "math/bits.deBruijn64tab"], apart := false, laid := [("math/bits.deBruijn32tab", laid_math_bits_deBruijn32tab), ("math/bits.deBruijn64tab", laid_math_bits_deBruijn64tab), ("internal/strconv.uint64pow10", laid_internal_strconv_uint64pow10), ("unicode/utf8.acceptRanges", laid_unicode_utf8_acceptRanges), ("unicode/utf8.first", laid_unicode_utf8_first)], narrowed := true }
def OidSignsUptoSaid : Prop := oidSignsUptoRow.holds Tryd.pinned (OpenSpec.upto oidSignsSpec)

/-- 'lockfastlaw08.OidUnlike', WHERE WHAT IT READS IS OF BULK AT MOST 1048576: true; the input reads as it did. -/
def oidUnlikeUptoRow : OpenClaim := { program := "ytnhbpenejlocaaadoor", sum := "72b1680d707662788018dee639ae351c247b26bd2e25e554076898e38b5059d1", func := "lockfast/lockfastlaw08.OidUnlike", spec := "oidUnlike", inPlace := ["internal/bytealg.CountString", "internal/bytealg.IndexByteString", "internal/bytealg.IndexString"], named := ["unicode/utf8.first", "unicode/utf8.acceptRanges", "internal/bytealg.MaxLen", "internal/strconv.uint64pow10", "math/bits.deBruijn32tab", "math/bits.deBruijn64tab"], apart := false, laid := [("math/bits.deBruijn32tab", laid_math_bits_deBruijn32tab), ("math/bits.deBruijn64tab", laid_math_bits_deBruijn64tab), ("internal/strconv.uint64pow10", laid_internal_strconv_uint64pow10), ("unicode/utf8.acceptRanges", laid_unicode_utf8_acceptRanges), ("unicode/utf8.first", laid_unicode_utf8_first)], narrowed := true }
def OidUnlikeUptoSaid : Prop := oidUnlikeUptoRow.holds Tryd.pinned (OpenSpec.upto oidUnlikeSpec)

/-- 'lockfastlaw10.ChunkEncodes', WHERE WHAT IT READS IS OF BULK AT MOST 1048576: true; the input reads as it did. -/
def chunkEncodesUptoRow : OpenClaim := { program := "ytnhbpenejlocaaadoor", sum := "72b1680d707662788018dee639ae351c247b26bd2e25e554076898e38b5059d1", func := "lockfast/lockfastlaw10.ChunkEncodes", spec := "chunkEncodes", unfollowed := true, recurses := true, named := ["lockfast/class.blocks", "lockfast/chunk.kindPlace", "lockfast/chunk.classPlace", "lockfast/chunk.lanePlace", "lockfast/chunk.manyPlace", "lockfast/chunk.bitsPlace", "math/bits.deBruijn64tab"], apart := false, laid := [("math/bits.deBruijn64tab", laid_math_bits_deBruijn64tab), ("lockfast/class.blocks", laid_lockfast_class_blocks), ("lockfast/chunk.kindPlace", laid_lockfast_chunk_kindPlace), ("lockfast/chunk.classPlace", laid_lockfast_chunk_classPlace), ("lockfast/chunk.lanePlace", laid_lockfast_chunk_lanePlace), ("lockfast/chunk.manyPlace", laid_lockfast_chunk_manyPlace), ("lockfast/chunk.bitsPlace", laid_lockfast_chunk_bitsPlace)], narrowed := true }
def ChunkEncodesUptoSaid : Prop := chunkEncodesUptoRow.holds Tryd.pinned (OpenSpec.upto chunkEncodesSpec)

/-- 'lockfastlaw10.ChunkDecodes', WHERE WHAT IT READS IS OF BULK AT MOST 1048576: true; the input reads as it did. -/
def chunkDecodesUptoRow : OpenClaim := { program := "ytnhbpenejlocaaadoor", sum := "72b1680d707662788018dee639ae351c247b26bd2e25e554076898e38b5059d1", func := "lockfast/lockfastlaw10.ChunkDecodes", spec := "chunkDecodes", unfollowed := true, recurses := true, named := ["lockfast/class.blocks", "lockfast/chunk.kindPlace", "lockfast/chunk.classPlace", "lockfast/chunk.lanePlace", "lockfast/chunk.manyPlace", "lockfast/chunk.bitsPlace", "math/bits.deBruijn64tab"], apart := false, laid := [("math/bits.deBruijn64tab", laid_math_bits_deBruijn64tab), ("lockfast/class.blocks", laid_lockfast_class_blocks), ("lockfast/chunk.kindPlace", laid_lockfast_chunk_kindPlace), ("lockfast/chunk.classPlace", laid_lockfast_chunk_classPlace), ("lockfast/chunk.lanePlace", laid_lockfast_chunk_lanePlace), ("lockfast/chunk.manyPlace", laid_lockfast_chunk_manyPlace), ("lockfast/chunk.bitsPlace", laid_lockfast_chunk_bitsPlace)], narrowed := true }
def ChunkDecodesUptoSaid : Prop := chunkDecodesUptoRow.holds Tryd.pinned (OpenSpec.upto chunkDecodesSpec)

/-- 'lockfastlaw10.ChunkRooms', WHERE WHAT IT READS IS OF BULK AT MOST 1048576: true; the input reads as it did. -/
def chunkRoomsUptoRow : OpenClaim := { program := "ytnhbpenejlocaaadoor", sum := "72b1680d707662788018dee639ae351c247b26bd2e25e554076898e38b5059d1", func := "lockfast/lockfastlaw10.ChunkRooms", spec := "chunkRooms", unfollowed := true, recurses := true, named := ["lockfast/class.blocks", "lockfast/chunk.kindPlace", "lockfast/chunk.classPlace", "lockfast/chunk.lanePlace", "lockfast/chunk.manyPlace", "lockfast/chunk.bitsPlace", "math/bits.deBruijn64tab"], apart := false, laid := [("math/bits.deBruijn64tab", laid_math_bits_deBruijn64tab), ("lockfast/class.blocks", laid_lockfast_class_blocks), ("lockfast/chunk.kindPlace", laid_lockfast_chunk_kindPlace), ("lockfast/chunk.classPlace", laid_lockfast_chunk_classPlace), ("lockfast/chunk.lanePlace", laid_lockfast_chunk_lanePlace), ("lockfast/chunk.manyPlace", laid_lockfast_chunk_manyPlace), ("lockfast/chunk.bitsPlace", laid_lockfast_chunk_bitsPlace)], narrowed := true }
def ChunkRoomsUptoSaid : Prop := chunkRoomsUptoRow.holds Tryd.pinned (OpenSpec.upto chunkRoomsSpec)

/-- 'lockfastlaw10.ChunkBack', WHERE WHAT IT READS IS OF BULK AT MOST 1048576: true; the input reads as it did. -/
def chunkBackUptoRow : OpenClaim := { program := "ytnhbpenejlocaaadoor", sum := "72b1680d707662788018dee639ae351c247b26bd2e25e554076898e38b5059d1", func := "lockfast/lockfastlaw10.ChunkBack", spec := "chunkBack", unfollowed := true, recurses := true, named := ["lockfast/class.blocks", "lockfast/chunk.kindPlace", "lockfast/chunk.classPlace", "lockfast/chunk.lanePlace", "lockfast/chunk.manyPlace", "lockfast/chunk.bitsPlace", "math/bits.deBruijn64tab"], apart := false, laid := [("math/bits.deBruijn64tab", laid_math_bits_deBruijn64tab), ("lockfast/class.blocks", laid_lockfast_class_blocks), ("lockfast/chunk.kindPlace", laid_lockfast_chunk_kindPlace), ("lockfast/chunk.classPlace", laid_lockfast_chunk_classPlace), ("lockfast/chunk.lanePlace", laid_lockfast_chunk_lanePlace), ("lockfast/chunk.manyPlace", laid_lockfast_chunk_manyPlace), ("lockfast/chunk.bitsPlace", laid_lockfast_chunk_bitsPlace)], narrowed := true }
def ChunkBackUptoSaid : Prop := chunkBackUptoRow.holds Tryd.pinned (OpenSpec.upto chunkBackSpec)

/-- 'lockfastlaw10.ChunkLives', WHERE WHAT IT READS IS OF BULK AT MOST 1048576: true; the input reads as it did. -/
def chunkLivesUptoRow : OpenClaim := { program := "ytnhbpenejlocaaadoor", sum := "72b1680d707662788018dee639ae351c247b26bd2e25e554076898e38b5059d1", func := "lockfast/lockfastlaw10.ChunkLives", spec := "chunkLives", unfollowed := true, recurses := true, named := ["lockfast/class.blocks", "lockfast/chunk.kindPlace", "lockfast/chunk.classPlace", "lockfast/chunk.lanePlace", "lockfast/chunk.manyPlace", "lockfast/chunk.bitsPlace", "math/bits.deBruijn64tab"], apart := false, laid := [("math/bits.deBruijn64tab", laid_math_bits_deBruijn64tab), ("lockfast/class.blocks", laid_lockfast_class_blocks), ("lockfast/chunk.kindPlace", laid_lockfast_chunk_kindPlace), ("lockfast/chunk.classPlace", laid_lockfast_chunk_classPlace), ("lockfast/chunk.lanePlace", laid_lockfast_chunk_lanePlace), ("lockfast/chunk.manyPlace", laid_lockfast_chunk_manyPlace), ("lockfast/chunk.bitsPlace", laid_lockfast_chunk_bitsPlace)], narrowed := true }
def ChunkLivesUptoSaid : Prop := chunkLivesUptoRow.holds Tryd.pinned (OpenSpec.upto chunkLivesSpec)

/-- 'lockfastlaw10.ChunkFills', WHERE WHAT IT READS IS OF BULK AT MOST 1048576: true; the input reads as it did. -/
def chunkFillsUptoRow : OpenClaim := { program := "ytnhbpenejlocaaadoor", sum := "72b1680d707662788018dee639ae351c247b26bd2e25e554076898e38b5059d1", func := "lockfast/lockfastlaw10.ChunkFills", spec := "chunkFills", unfollowed := true, recurses := true, named := ["lockfast/class.blocks", "lockfast/chunk.kindPlace", "lockfast/chunk.classPlace", "lockfast/chunk.lanePlace", "lockfast/chunk.manyPlace", "lockfast/chunk.bitsPlace", "math/bits.deBruijn64tab"], apart := false, laid := [("math/bits.deBruijn64tab", laid_math_bits_deBruijn64tab), ("lockfast/class.blocks", laid_lockfast_class_blocks), ("lockfast/chunk.kindPlace", laid_lockfast_chunk_kindPlace), ("lockfast/chunk.classPlace", laid_lockfast_chunk_classPlace), ("lockfast/chunk.lanePlace", laid_lockfast_chunk_lanePlace), ("lockfast/chunk.manyPlace", laid_lockfast_chunk_manyPlace), ("lockfast/chunk.bitsPlace", laid_lockfast_chunk_bitsPlace)], narrowed := true }
def ChunkFillsUptoSaid : Prop := chunkFillsUptoRow.holds Tryd.pinned (OpenSpec.upto chunkFillsSpec)

/-- 'lockfastlaw10.ChunkUnlike', WHERE WHAT IT READS IS OF BULK AT MOST 1048576: true; the input reads as it did. -/
def chunkUnlikeUptoRow : OpenClaim := { program := "ytnhbpenejlocaaadoor", sum := "72b1680d707662788018dee639ae351c247b26bd2e25e554076898e38b5059d1", func := "lockfast/lockfastlaw10.ChunkUnlike", spec := "chunkUnlike", unfollowed := true, recurses := true, named := ["lockfast/class.blocks", "lockfast/chunk.kindPlace", "lockfast/chunk.classPlace", "lockfast/chunk.lanePlace", "lockfast/chunk.manyPlace", "lockfast/chunk.bitsPlace", "math/bits.deBruijn64tab"], apart := false, laid := [("math/bits.deBruijn64tab", laid_math_bits_deBruijn64tab), ("lockfast/class.blocks", laid_lockfast_class_blocks), ("lockfast/chunk.kindPlace", laid_lockfast_chunk_kindPlace), ("lockfast/chunk.classPlace", laid_lockfast_chunk_classPlace), ("lockfast/chunk.lanePlace", laid_lockfast_chunk_lanePlace), ("lockfast/chunk.manyPlace", laid_lockfast_chunk_manyPlace), ("lockfast/chunk.bitsPlace", laid_lockfast_chunk_bitsPlace)], narrowed := true }
def ChunkUnlikeUptoSaid : Prop := chunkUnlikeUptoRow.holds Tryd.pinned (OpenSpec.upto chunkUnlikeSpec)

end Rows
end Go.Proofs.YtnhbpenejlocaaaDoor
