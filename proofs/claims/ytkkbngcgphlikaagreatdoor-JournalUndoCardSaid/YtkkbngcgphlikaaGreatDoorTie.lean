/-
  DERIVED. GIVEN WITH THE SEED: THE PROGRAM's TIES (one call each: nine closed facts by the kernel) AND EACH ROW's TIE, after the 31st guide's Derived/Test/Toyas{Tie, Card}.lean. No idea stands in it: it is a product of the set-up. Laid BY PROGRAM, IN A SANDBOX (cutbox-door.mjs). By AI agents, Wed Nov 11 2026. No macro, syntax, notation, axiom, sorry.
-/
import Derived.Test.YtkkbngcgphlikaaGreatDoorRows
import Derived.LaidByTextLater
import Derived.SevenTiedAt
import Derived.LaidSub
import Derived.LaidOnce
namespace Go.Proofs.YtkkbngcgphlikaaGreatDoor
open Go
set_option maxRecDepth 100000
theorem seatTie1 : Tryz.prog.laidByTextLater [("lockfast/class.blocks", Rows.laid_lockfast_class_blocks), ("lockfast/chunk.kindPlace", Rows.laid_lockfast_chunk_kindPlace), ("lockfast/chunk.classPlace", Rows.laid_lockfast_chunk_classPlace), ("lockfast/chunk.lanePlace", Rows.laid_lockfast_chunk_lanePlace), ("lockfast/chunk.manyPlace", Rows.laid_lockfast_chunk_manyPlace), ("lockfast/chunk.bitsPlace", Rows.laid_lockfast_chunk_bitsPlace)] [.data, .wider, .wider, .wider, .wider, .wider] true :=
  Program.laidByTextLater_by_one 39 8 4 (by kernel_rfl) (by kernel_rfl) (by kernel_rfl) (by kernel_rfl) (by kernel_rfl) (by kernel_rfl) (fun _ _ => by kernel_rfl)
theorem noOwnUnsafe : Tryz.pinned.checked.prog.headLifts.contains "ownunsafe" = false := by kernel_rfl
theorem tie : Tryz.prog.laidByTextLater [("lockfast/class.blocks", Rows.laid_lockfast_class_blocks), ("lockfast/chunk.kindPlace", Rows.laid_lockfast_chunk_kindPlace), ("lockfast/chunk.classPlace", Rows.laid_lockfast_chunk_classPlace), ("lockfast/chunk.lanePlace", Rows.laid_lockfast_chunk_lanePlace), ("lockfast/chunk.manyPlace", Rows.laid_lockfast_chunk_manyPlace), ("lockfast/chunk.bitsPlace", Rows.laid_lockfast_chunk_bitsPlace)] [.data, .wider, .wider, .wider, .wider, .wider] true :=
  Program.laidByTextLater.sub seatTie1 ["lockfast/class.blocks", "lockfast/chunk.kindPlace", "lockfast/chunk.classPlace", "lockfast/chunk.lanePlace", "lockfast/chunk.manyPlace", "lockfast/chunk.bitsPlace"] (by kernel_rfl) (by kernel_rfl)
theorem journalUndo_row_tie : Rows.journalUndoRow.laidByTextAt .later Tryz.pinned [.data, .wider, .wider, .wider, .wider, .wider] true :=
  OpenClaim.laidByTextAt_later rfl rfl tie noOwnUnsafe
theorem journalRedo_row_tie : Rows.journalRedoRow.laidByTextAt .later Tryz.pinned [.data, .wider, .wider, .wider, .wider, .wider] true :=
  OpenClaim.laidByTextAt_later rfl rfl tie noOwnUnsafe
theorem journalGrows_row_tie : Rows.journalGrowsRow.laidByTextAt .later Tryz.pinned [.data, .wider, .wider, .wider, .wider, .wider] true :=
  OpenClaim.laidByTextAt_later rfl rfl tie noOwnUnsafe
theorem journalHeals_row_tie : Rows.journalHealsRow.laidByTextAt .later Tryz.pinned [.data, .wider, .wider, .wider, .wider, .wider] true :=
  OpenClaim.laidByTextAt_later rfl rfl tie noOwnUnsafe
theorem journalSteps_row_tie : Rows.journalStepsRow.laidByTextAt .later Tryz.pinned [.data, .wider, .wider, .wider, .wider, .wider] true :=
  OpenClaim.laidByTextAt_later rfl rfl tie noOwnUnsafe
theorem journalSaves_row_tie : Rows.journalSavesRow.laidByTextAt .later Tryz.pinned [.data, .wider, .wider, .wider, .wider, .wider] true :=
  OpenClaim.laidByTextAt_later rfl rfl tie noOwnUnsafe
theorem journalUndoUpto_row_tie : Rows.journalUndoUptoRow.laidByTextAt .later Tryz.pinned [.data, .wider, .wider, .wider, .wider, .wider] true :=
  OpenClaim.laidByTextAt_later rfl rfl tie noOwnUnsafe
theorem journalRedoUpto_row_tie : Rows.journalRedoUptoRow.laidByTextAt .later Tryz.pinned [.data, .wider, .wider, .wider, .wider, .wider] true :=
  OpenClaim.laidByTextAt_later rfl rfl tie noOwnUnsafe
theorem journalGrowsUpto_row_tie : Rows.journalGrowsUptoRow.laidByTextAt .later Tryz.pinned [.data, .wider, .wider, .wider, .wider, .wider] true :=
  OpenClaim.laidByTextAt_later rfl rfl tie noOwnUnsafe
theorem journalHealsUpto_row_tie : Rows.journalHealsUptoRow.laidByTextAt .later Tryz.pinned [.data, .wider, .wider, .wider, .wider, .wider] true :=
  OpenClaim.laidByTextAt_later rfl rfl tie noOwnUnsafe
theorem journalStepsUpto_row_tie : Rows.journalStepsUptoRow.laidByTextAt .later Tryz.pinned [.data, .wider, .wider, .wider, .wider, .wider] true :=
  OpenClaim.laidByTextAt_later rfl rfl tie noOwnUnsafe
theorem journalSavesUpto_row_tie : Rows.journalSavesUptoRow.laidByTextAt .later Tryz.pinned [.data, .wider, .wider, .wider, .wider, .wider] true :=
  OpenClaim.laidByTextAt_later rfl rfl tie noOwnUnsafe
end Go.Proofs.YtkkbngcgphlikaaGreatDoor
