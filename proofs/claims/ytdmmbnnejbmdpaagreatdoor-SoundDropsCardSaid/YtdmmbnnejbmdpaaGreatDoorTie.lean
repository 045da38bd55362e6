/-
  DERIVED. GIVEN WITH THE SEED: THE PROGRAM's TIES (one call each: nine closed facts by the kernel) AND EACH ROW's TIE, after the 31st guide's Derived/Test/Toyas{Tie, Card}.lean. No idea stands in it: it is a product of the set-up. Laid BY PROGRAM, IN A SANDBOX (cutbox-door.mjs). By AI agents, Wed Nov 11 2026. No macro, syntax, notation, axiom, sorry.
-/
import Derived.Test.YtdmmbnnejbmdpaaGreatDoorRows
import Derived.LaidByTextLater
import Derived.SevenTiedAt
import Derived.LaidSub
import Derived.LaidOnce
namespace Go.Proofs.YtdmmbnnejbmdpaaGreatDoor
open Go
set_option maxRecDepth 100000
theorem seatTie1 : Tryz.prog.laidByTextLater [("math/bits.deBruijn64tab", Rows.laid_math_bits_deBruijn64tab), ("lockfast/class.blocks", Rows.laid_lockfast_class_blocks), ("lockfast/chunk.kindPlace", Rows.laid_lockfast_chunk_kindPlace), ("lockfast/chunk.classPlace", Rows.laid_lockfast_chunk_classPlace), ("lockfast/chunk.lanePlace", Rows.laid_lockfast_chunk_lanePlace), ("lockfast/chunk.manyPlace", Rows.laid_lockfast_chunk_manyPlace), ("lockfast/chunk.bitsPlace", Rows.laid_lockfast_chunk_bitsPlace)] [.data, .data, .wider, .wider, .wider, .wider, .wider] true :=
  Program.laidByTextLater_by_one 44 8 65 (by kernel_rfl) (by kernel_rfl) (by kernel_rfl) (by kernel_rfl) (by kernel_rfl) (by kernel_rfl) (fun _ _ => by kernel_rfl)
theorem noOwnUnsafe : Tryz.pinned.checked.prog.headLifts.contains "ownunsafe" = false := by kernel_rfl
theorem tie : Tryz.prog.laidByTextLater [("math/bits.deBruijn64tab", Rows.laid_math_bits_deBruijn64tab), ("lockfast/class.blocks", Rows.laid_lockfast_class_blocks), ("lockfast/chunk.kindPlace", Rows.laid_lockfast_chunk_kindPlace), ("lockfast/chunk.classPlace", Rows.laid_lockfast_chunk_classPlace), ("lockfast/chunk.lanePlace", Rows.laid_lockfast_chunk_lanePlace), ("lockfast/chunk.manyPlace", Rows.laid_lockfast_chunk_manyPlace), ("lockfast/chunk.bitsPlace", Rows.laid_lockfast_chunk_bitsPlace)] [.data, .data, .wider, .wider, .wider, .wider, .wider] true :=
  Program.laidByTextLater.sub seatTie1 ["math/bits.deBruijn64tab", "lockfast/class.blocks", "lockfast/chunk.kindPlace", "lockfast/chunk.classPlace", "lockfast/chunk.lanePlace", "lockfast/chunk.manyPlace", "lockfast/chunk.bitsPlace"] (by kernel_rfl) (by kernel_rfl)
theorem soundTells_row_tie : Rows.soundTellsRow.laidByTextAt .later Tryz.pinned [.data, .data, .wider, .wider, .wider, .wider, .wider] true :=
  OpenClaim.laidByTextAt_later rfl rfl tie noOwnUnsafe
theorem soundGiven_row_tie : Rows.soundGivenRow.laidByTextAt .later Tryz.pinned [.data, .data, .wider, .wider, .wider, .wider, .wider] true :=
  OpenClaim.laidByTextAt_later rfl rfl tie noOwnUnsafe
theorem soundPlaces_row_tie : Rows.soundPlacesRow.laidByTextAt .later Tryz.pinned [.data, .data, .wider, .wider, .wider, .wider, .wider] true :=
  OpenClaim.laidByTextAt_later rfl rfl tie noOwnUnsafe
theorem soundApart_row_tie : Rows.soundApartRow.laidByTextAt .later Tryz.pinned [.data, .data, .wider, .wider, .wider, .wider, .wider] true :=
  OpenClaim.laidByTextAt_later rfl rfl tie noOwnUnsafe
theorem soundWords_row_tie : Rows.soundWordsRow.laidByTextAt .later Tryz.pinned [.data, .data, .wider, .wider, .wider, .wider, .wider] true :=
  OpenClaim.laidByTextAt_later rfl rfl tie noOwnUnsafe
theorem soundDrops_row_tie : Rows.soundDropsRow.laidByTextAt .later Tryz.pinned [.data, .data, .wider, .wider, .wider, .wider, .wider] true :=
  OpenClaim.laidByTextAt_later rfl rfl tie noOwnUnsafe
theorem soundTwins_row_tie : Rows.soundTwinsRow.laidByTextAt .later Tryz.pinned [.data, .data, .wider, .wider, .wider, .wider, .wider] true :=
  OpenClaim.laidByTextAt_later rfl rfl tie noOwnUnsafe
theorem soundTellsUpto_row_tie : Rows.soundTellsUptoRow.laidByTextAt .later Tryz.pinned [.data, .data, .wider, .wider, .wider, .wider, .wider] true :=
  OpenClaim.laidByTextAt_later rfl rfl tie noOwnUnsafe
theorem soundGivenUpto_row_tie : Rows.soundGivenUptoRow.laidByTextAt .later Tryz.pinned [.data, .data, .wider, .wider, .wider, .wider, .wider] true :=
  OpenClaim.laidByTextAt_later rfl rfl tie noOwnUnsafe
theorem soundPlacesUpto_row_tie : Rows.soundPlacesUptoRow.laidByTextAt .later Tryz.pinned [.data, .data, .wider, .wider, .wider, .wider, .wider] true :=
  OpenClaim.laidByTextAt_later rfl rfl tie noOwnUnsafe
theorem soundApartUpto_row_tie : Rows.soundApartUptoRow.laidByTextAt .later Tryz.pinned [.data, .data, .wider, .wider, .wider, .wider, .wider] true :=
  OpenClaim.laidByTextAt_later rfl rfl tie noOwnUnsafe
theorem soundWordsUpto_row_tie : Rows.soundWordsUptoRow.laidByTextAt .later Tryz.pinned [.data, .data, .wider, .wider, .wider, .wider, .wider] true :=
  OpenClaim.laidByTextAt_later rfl rfl tie noOwnUnsafe
theorem soundDropsUpto_row_tie : Rows.soundDropsUptoRow.laidByTextAt .later Tryz.pinned [.data, .data, .wider, .wider, .wider, .wider, .wider] true :=
  OpenClaim.laidByTextAt_later rfl rfl tie noOwnUnsafe
theorem soundTwinsUpto_row_tie : Rows.soundTwinsUptoRow.laidByTextAt .later Tryz.pinned [.data, .data, .wider, .wider, .wider, .wider, .wider] true :=
  OpenClaim.laidByTextAt_later rfl rfl tie noOwnUnsafe
end Go.Proofs.YtdmmbnnejbmdpaaGreatDoor
