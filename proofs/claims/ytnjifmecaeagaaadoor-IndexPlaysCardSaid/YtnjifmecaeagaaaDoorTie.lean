/-
  DERIVED. GIVEN WITH THE SEED: THE PROGRAM's TIES (one call each: nine closed facts by the kernel) AND EACH ROW's TIE, after the 31st guide's Derived/Test/Toyas{Tie, Card}.lean. No idea stands in it: it is a product of the set-up. Laid BY PROGRAM, IN A SANDBOX (cutbox-door.mjs). By AI agents, Wed Nov 11 2026. No macro, syntax, notation, axiom, sorry.
-/
import Derived.Test.YtnjifmecaeagaaaDoorRows
import Derived.LaidByTextLater
import Derived.SevenTiedAt
import Derived.LaidSub
import Derived.LaidOnce
namespace Go.Proofs.YtnjifmecaeagaaaDoor
open Go
set_option maxRecDepth 100000
theorem seatTie1 : Tryd.prog.laidByTextLater [("math/bits.deBruijn64tab", Rows.laid_math_bits_deBruijn64tab), ("lockfast/class.blocks", Rows.laid_lockfast_class_blocks), ("lockfast/chunk.kindPlace", Rows.laid_lockfast_chunk_kindPlace), ("lockfast/chunk.classPlace", Rows.laid_lockfast_chunk_classPlace), ("lockfast/chunk.lanePlace", Rows.laid_lockfast_chunk_lanePlace), ("lockfast/chunk.manyPlace", Rows.laid_lockfast_chunk_manyPlace), ("lockfast/chunk.bitsPlace", Rows.laid_lockfast_chunk_bitsPlace)] [.data, .data, .wider, .wider, .wider, .wider, .wider] true :=
  Program.laidByTextLater_by_one 44 8 65 (by kernel_rfl) (by kernel_rfl) (by kernel_rfl) (by kernel_rfl) (by kernel_rfl) (by kernel_rfl) (fun _ _ => by kernel_rfl)
theorem noOwnUnsafe : Tryd.pinned.checked.prog.headLifts.contains "ownunsafe" = false := by kernel_rfl
theorem tie : Tryd.prog.laidByTextLater [("math/bits.deBruijn64tab", Rows.laid_math_bits_deBruijn64tab), ("lockfast/class.blocks", Rows.laid_lockfast_class_blocks), ("lockfast/chunk.kindPlace", Rows.laid_lockfast_chunk_kindPlace), ("lockfast/chunk.classPlace", Rows.laid_lockfast_chunk_classPlace), ("lockfast/chunk.lanePlace", Rows.laid_lockfast_chunk_lanePlace), ("lockfast/chunk.manyPlace", Rows.laid_lockfast_chunk_manyPlace), ("lockfast/chunk.bitsPlace", Rows.laid_lockfast_chunk_bitsPlace)] [.data, .data, .wider, .wider, .wider, .wider, .wider] true :=
  Program.laidByTextLater.sub seatTie1 ["math/bits.deBruijn64tab", "lockfast/class.blocks", "lockfast/chunk.kindPlace", "lockfast/chunk.classPlace", "lockfast/chunk.lanePlace", "lockfast/chunk.manyPlace", "lockfast/chunk.bitsPlace"] (by kernel_rfl) (by kernel_rfl)
theorem tileReads_row_tie : Rows.tileReadsRow.laidByTextAt .later Tryd.pinned [.data, .data, .wider, .wider, .wider, .wider, .wider] true :=
  OpenClaim.laidByTextAt_later rfl rfl tie noOwnUnsafe
theorem tileTells_row_tie : Rows.tileTellsRow.laidByTextAt .later Tryd.pinned [.data, .data, .wider, .wider, .wider, .wider, .wider] true :=
  OpenClaim.laidByTextAt_later rfl rfl tie noOwnUnsafe
theorem tileWhole_row_tie : Rows.tileWholeRow.laidByTextAt .later Tryd.pinned [.data, .data, .wider, .wider, .wider, .wider, .wider] true :=
  OpenClaim.laidByTextAt_later rfl rfl tie noOwnUnsafe
theorem tileRows_row_tie : Rows.tileRowsRow.laidByTextAt .later Tryd.pinned [.data, .data, .wider, .wider, .wider, .wider, .wider] true :=
  OpenClaim.laidByTextAt_later rfl rfl tie noOwnUnsafe
theorem tileOne_row_tie : Rows.tileOneRow.laidByTextAt .later Tryd.pinned [.data, .data, .wider, .wider, .wider, .wider, .wider] true :=
  OpenClaim.laidByTextAt_later rfl rfl tie noOwnUnsafe
theorem tileParts_row_tie : Rows.tilePartsRow.laidByTextAt .later Tryd.pinned [.data, .data, .wider, .wider, .wider, .wider, .wider] true :=
  OpenClaim.laidByTextAt_later rfl rfl tie noOwnUnsafe
theorem indexPlays_row_tie : Rows.indexPlaysRow.laidByTextAt .later Tryd.pinned [.data, .data, .wider, .wider, .wider, .wider, .wider] true :=
  OpenClaim.laidByTextAt_later rfl rfl tie noOwnUnsafe
theorem indexTable_row_tie : Rows.indexTableRow.laidByTextAt .later Tryd.pinned [.data, .data, .wider, .wider, .wider, .wider, .wider] true :=
  OpenClaim.laidByTextAt_later rfl rfl tie noOwnUnsafe
theorem indexApart_row_tie : Rows.indexApartRow.laidByTextAt .later Tryd.pinned [.data, .data, .wider, .wider, .wider, .wider, .wider] true :=
  OpenClaim.laidByTextAt_later rfl rfl tie noOwnUnsafe
theorem indexNoSpace_row_tie : Rows.indexNoSpaceRow.laidByTextAt .later Tryd.pinned [.data, .data, .wider, .wider, .wider, .wider, .wider] true :=
  OpenClaim.laidByTextAt_later rfl rfl tie noOwnUnsafe
theorem indexDrops_row_tie : Rows.indexDropsRow.laidByTextAt .later Tryd.pinned [.data, .data, .wider, .wider, .wider, .wider, .wider] true :=
  OpenClaim.laidByTextAt_later rfl rfl tie noOwnUnsafe
theorem indexFrees_row_tie : Rows.indexFreesRow.laidByTextAt .later Tryd.pinned [.data, .data, .wider, .wider, .wider, .wider, .wider] true :=
  OpenClaim.laidByTextAt_later rfl rfl tie noOwnUnsafe
theorem tileReadsUpto_row_tie : Rows.tileReadsUptoRow.laidByTextAt .later Tryd.pinned [.data, .data, .wider, .wider, .wider, .wider, .wider] true :=
  OpenClaim.laidByTextAt_later rfl rfl tie noOwnUnsafe
theorem tileTellsUpto_row_tie : Rows.tileTellsUptoRow.laidByTextAt .later Tryd.pinned [.data, .data, .wider, .wider, .wider, .wider, .wider] true :=
  OpenClaim.laidByTextAt_later rfl rfl tie noOwnUnsafe
theorem tileWholeUpto_row_tie : Rows.tileWholeUptoRow.laidByTextAt .later Tryd.pinned [.data, .data, .wider, .wider, .wider, .wider, .wider] true :=
  OpenClaim.laidByTextAt_later rfl rfl tie noOwnUnsafe
theorem tileRowsUpto_row_tie : Rows.tileRowsUptoRow.laidByTextAt .later Tryd.pinned [.data, .data, .wider, .wider, .wider, .wider, .wider] true :=
  OpenClaim.laidByTextAt_later rfl rfl tie noOwnUnsafe
theorem tileOneUpto_row_tie : Rows.tileOneUptoRow.laidByTextAt .later Tryd.pinned [.data, .data, .wider, .wider, .wider, .wider, .wider] true :=
  OpenClaim.laidByTextAt_later rfl rfl tie noOwnUnsafe
theorem tilePartsUpto_row_tie : Rows.tilePartsUptoRow.laidByTextAt .later Tryd.pinned [.data, .data, .wider, .wider, .wider, .wider, .wider] true :=
  OpenClaim.laidByTextAt_later rfl rfl tie noOwnUnsafe
theorem indexPlaysUpto_row_tie : Rows.indexPlaysUptoRow.laidByTextAt .later Tryd.pinned [.data, .data, .wider, .wider, .wider, .wider, .wider] true :=
  OpenClaim.laidByTextAt_later rfl rfl tie noOwnUnsafe
theorem indexTableUpto_row_tie : Rows.indexTableUptoRow.laidByTextAt .later Tryd.pinned [.data, .data, .wider, .wider, .wider, .wider, .wider] true :=
  OpenClaim.laidByTextAt_later rfl rfl tie noOwnUnsafe
theorem indexApartUpto_row_tie : Rows.indexApartUptoRow.laidByTextAt .later Tryd.pinned [.data, .data, .wider, .wider, .wider, .wider, .wider] true :=
  OpenClaim.laidByTextAt_later rfl rfl tie noOwnUnsafe
theorem indexNoSpaceUpto_row_tie : Rows.indexNoSpaceUptoRow.laidByTextAt .later Tryd.pinned [.data, .data, .wider, .wider, .wider, .wider, .wider] true :=
  OpenClaim.laidByTextAt_later rfl rfl tie noOwnUnsafe
theorem indexDropsUpto_row_tie : Rows.indexDropsUptoRow.laidByTextAt .later Tryd.pinned [.data, .data, .wider, .wider, .wider, .wider, .wider] true :=
  OpenClaim.laidByTextAt_later rfl rfl tie noOwnUnsafe
theorem indexFreesUpto_row_tie : Rows.indexFreesUptoRow.laidByTextAt .later Tryd.pinned [.data, .data, .wider, .wider, .wider, .wider, .wider] true :=
  OpenClaim.laidByTextAt_later rfl rfl tie noOwnUnsafe
end Go.Proofs.YtnjifmecaeagaaaDoor
