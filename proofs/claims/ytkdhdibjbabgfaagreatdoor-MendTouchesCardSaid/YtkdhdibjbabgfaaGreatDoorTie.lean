/-
  DERIVED. GIVEN WITH THE SEED: THE PROGRAM's TIES (one call each: nine closed facts by the kernel) AND EACH ROW's TIE, after the 31st guide's Derived/Test/Toyas{Tie, Card}.lean. No idea stands in it: it is a product of the set-up. Laid BY PROGRAM, IN A SANDBOX (cutbox-door.mjs). By AI agents, Wed Nov 11 2026. No macro, syntax, notation, axiom, sorry.
-/
import Derived.Test.YtkdhdibjbabgfaaGreatDoorRows
import Derived.LaidByTextLater
import Derived.SevenTiedAt
import Derived.LaidSub
import Derived.LaidOnce
namespace Go.Proofs.YtkdhdibjbabgfaaGreatDoor
open Go
set_option maxRecDepth 100000
theorem seatTie1 : Tryz.prog.laidByTextLater [("lockfast/class.blocks", Rows.laid_lockfast_class_blocks), ("lockfast/chunk.kindPlace", Rows.laid_lockfast_chunk_kindPlace), ("lockfast/chunk.classPlace", Rows.laid_lockfast_chunk_classPlace), ("lockfast/chunk.lanePlace", Rows.laid_lockfast_chunk_lanePlace), ("lockfast/chunk.manyPlace", Rows.laid_lockfast_chunk_manyPlace), ("lockfast/chunk.bitsPlace", Rows.laid_lockfast_chunk_bitsPlace)] [.data, .wider, .wider, .wider, .wider, .wider] true :=
  Program.laidByTextLater_by_one 39 8 4 (by kernel_rfl) (by kernel_rfl) (by kernel_rfl) (by kernel_rfl) (by kernel_rfl) (by kernel_rfl) (fun _ _ => by kernel_rfl)
theorem noOwnUnsafe : Tryz.pinned.checked.prog.headLifts.contains "ownunsafe" = false := by kernel_rfl
theorem tie : Tryz.prog.laidByTextLater [("lockfast/class.blocks", Rows.laid_lockfast_class_blocks), ("lockfast/chunk.kindPlace", Rows.laid_lockfast_chunk_kindPlace), ("lockfast/chunk.classPlace", Rows.laid_lockfast_chunk_classPlace), ("lockfast/chunk.lanePlace", Rows.laid_lockfast_chunk_lanePlace), ("lockfast/chunk.manyPlace", Rows.laid_lockfast_chunk_manyPlace), ("lockfast/chunk.bitsPlace", Rows.laid_lockfast_chunk_bitsPlace)] [.data, .wider, .wider, .wider, .wider, .wider] true :=
  Program.laidByTextLater.sub seatTie1 ["lockfast/class.blocks", "lockfast/chunk.kindPlace", "lockfast/chunk.classPlace", "lockfast/chunk.lanePlace", "lockfast/chunk.manyPlace", "lockfast/chunk.bitsPlace"] (by kernel_rfl) (by kernel_rfl)
theorem mendLanes_row_tie : Rows.mendLanesRow.laidByTextAt .later Tryz.pinned [.data, .wider, .wider, .wider, .wider, .wider] true :=
  OpenClaim.laidByTextAt_later rfl rfl tie noOwnUnsafe
theorem mendWhole_row_tie : Rows.mendWholeRow.laidByTextAt .later Tryz.pinned [.data, .wider, .wider, .wider, .wider, .wider] true :=
  OpenClaim.laidByTextAt_later rfl rfl tie noOwnUnsafe
theorem mendBytes_row_tie : Rows.mendBytesRow.laidByTextAt .later Tryz.pinned [.data, .wider, .wider, .wider, .wider, .wider] true :=
  OpenClaim.laidByTextAt_later rfl rfl tie noOwnUnsafe
theorem mendAgain_row_tie : Rows.mendAgainRow.laidByTextAt .later Tryz.pinned [.data, .wider, .wider, .wider, .wider, .wider] true :=
  OpenClaim.laidByTextAt_later rfl rfl tie noOwnUnsafe
theorem mendPart_row_tie : Rows.mendPartRow.laidByTextAt .later Tryz.pinned [.data, .wider, .wider, .wider, .wider, .wider] true :=
  OpenClaim.laidByTextAt_later rfl rfl tie noOwnUnsafe
theorem mendTouches_row_tie : Rows.mendTouchesRow.laidByTextAt .later Tryz.pinned [.data, .wider, .wider, .wider, .wider, .wider] true :=
  OpenClaim.laidByTextAt_later rfl rfl tie noOwnUnsafe
theorem mendLanesUpto_row_tie : Rows.mendLanesUptoRow.laidByTextAt .later Tryz.pinned [.data, .wider, .wider, .wider, .wider, .wider] true :=
  OpenClaim.laidByTextAt_later rfl rfl tie noOwnUnsafe
theorem mendWholeUpto_row_tie : Rows.mendWholeUptoRow.laidByTextAt .later Tryz.pinned [.data, .wider, .wider, .wider, .wider, .wider] true :=
  OpenClaim.laidByTextAt_later rfl rfl tie noOwnUnsafe
theorem mendBytesUpto_row_tie : Rows.mendBytesUptoRow.laidByTextAt .later Tryz.pinned [.data, .wider, .wider, .wider, .wider, .wider] true :=
  OpenClaim.laidByTextAt_later rfl rfl tie noOwnUnsafe
theorem mendAgainUpto_row_tie : Rows.mendAgainUptoRow.laidByTextAt .later Tryz.pinned [.data, .wider, .wider, .wider, .wider, .wider] true :=
  OpenClaim.laidByTextAt_later rfl rfl tie noOwnUnsafe
theorem mendPartUpto_row_tie : Rows.mendPartUptoRow.laidByTextAt .later Tryz.pinned [.data, .wider, .wider, .wider, .wider, .wider] true :=
  OpenClaim.laidByTextAt_later rfl rfl tie noOwnUnsafe
theorem mendTouchesUpto_row_tie : Rows.mendTouchesUptoRow.laidByTextAt .later Tryz.pinned [.data, .wider, .wider, .wider, .wider, .wider] true :=
  OpenClaim.laidByTextAt_later rfl rfl tie noOwnUnsafe
end Go.Proofs.YtkdhdibjbabgfaaGreatDoor
