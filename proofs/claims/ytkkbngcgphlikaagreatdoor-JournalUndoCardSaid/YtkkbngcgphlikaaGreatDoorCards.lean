/-
  DERIVED. GIVEN WITH THE SEED: THE CARDS: each row of YtkkbngcgphlikaaGreatDoorRows.lean that lists a variable, with what it lists TIED to the program's text (the seventh form; the later family's looks); each row that meets fmt, with fmt's text TOLD by the authors' own Lean function (tested against real Go, not proved from fmt's source: count such statements apart). THE CARD IS WHAT COUNTS. Prove the row's statement (the work); the ties are given (YtkkbngcgphlikaaGreatDoorTie.lean); close each card by the builder's one call (the guide's Derived/Test/ToyasCard.lean, 'card_holds'). Laid BY PROGRAM, IN A SANDBOX (cutbox-door.mjs). By AI agents, Wed Nov 11 2026. No macro, syntax, notation, axiom, sorry.
-/
import Derived.Test.YtkkbngcgphlikaaGreatDoorRows
import GoSem.ClaimSeven
namespace Go.Proofs.YtkkbngcgphlikaaGreatDoor
namespace Rows

/-- THE TIED CARD OF 'lockfastlaw19.JournalUndo'. -/
def journalUndoCard : Claim7 := { stood := { row := journalUndoRow, standIns := [], harness := (true, "8c242488ee8828e3403d5cdb3d95cc94bef56f4a95cbd6d6f484c7f9762c4abd"), looks := false }, kinds := [], alts := [], laidByText := true, laidKinds := [.data, .wider, .wider, .wider, .wider, .wider], laidTests := true, laidLooks := .later }
def JournalUndoCardSaid : Prop := Claim7.holds Tryz.pinned (.plain (OpenSpec.ofChange journalUndoSpec)) journalUndoCard

/-- THE TIED CARD OF 'lockfastlaw19.JournalRedo'. -/
def journalRedoCard : Claim7 := { stood := { row := journalRedoRow, standIns := [], harness := (true, "8c242488ee8828e3403d5cdb3d95cc94bef56f4a95cbd6d6f484c7f9762c4abd"), looks := false }, kinds := [], alts := [], laidByText := true, laidKinds := [.data, .wider, .wider, .wider, .wider, .wider], laidTests := true, laidLooks := .later }
def JournalRedoCardSaid : Prop := Claim7.holds Tryz.pinned (.plain (OpenSpec.ofChange journalRedoSpec)) journalRedoCard

/-- THE TIED CARD OF 'lockfastlaw19.JournalGrows'. -/
def journalGrowsCard : Claim7 := { stood := { row := journalGrowsRow, standIns := [], harness := (true, "8c242488ee8828e3403d5cdb3d95cc94bef56f4a95cbd6d6f484c7f9762c4abd"), looks := false }, kinds := [], alts := [], laidByText := true, laidKinds := [.data, .wider, .wider, .wider, .wider, .wider], laidTests := true, laidLooks := .later }
def JournalGrowsCardSaid : Prop := Claim7.holds Tryz.pinned (.plain (OpenSpec.ofChange journalGrowsSpec)) journalGrowsCard

/-- THE TIED CARD OF 'lockfastlaw19.JournalHeals'. -/
def journalHealsCard : Claim7 := { stood := { row := journalHealsRow, standIns := [], harness := (true, "8c242488ee8828e3403d5cdb3d95cc94bef56f4a95cbd6d6f484c7f9762c4abd"), looks := false }, kinds := [], alts := [], laidByText := true, laidKinds := [.data, .wider, .wider, .wider, .wider, .wider], laidTests := true, laidLooks := .later }
def JournalHealsCardSaid : Prop := Claim7.holds Tryz.pinned (.plain (OpenSpec.ofChange journalHealsSpec)) journalHealsCard

/-- THE TIED CARD OF 'lockfastlaw19.JournalSteps'. -/
def journalStepsCard : Claim7 := { stood := { row := journalStepsRow, standIns := [], harness := (true, "8c242488ee8828e3403d5cdb3d95cc94bef56f4a95cbd6d6f484c7f9762c4abd"), looks := false }, kinds := [], alts := [], laidByText := true, laidKinds := [.data, .wider, .wider, .wider, .wider, .wider], laidTests := true, laidLooks := .later }
def JournalStepsCardSaid : Prop := Claim7.holds Tryz.pinned (.plain (OpenSpec.ofChange journalStepsSpec)) journalStepsCard

/-- THE TIED CARD OF 'lockfastlaw19.JournalSaves'. -/
def journalSavesCard : Claim7 := { stood := { row := journalSavesRow, standIns := [], harness := (true, "8c242488ee8828e3403d5cdb3d95cc94bef56f4a95cbd6d6f484c7f9762c4abd"), looks := false }, kinds := [], alts := [], laidByText := true, laidKinds := [.data, .wider, .wider, .wider, .wider, .wider], laidTests := true, laidLooks := .later }
def JournalSavesCardSaid : Prop := Claim7.holds Tryz.pinned (.plain (OpenSpec.ofChange journalSavesSpec)) journalSavesCard

/-- THE SECOND FORM's CARD OF 'lockfastlaw19.JournalUndo'. -/
def journalUndoUptoCard : Claim7 := { stood := { row := journalUndoUptoRow, standIns := [], harness := (true, "8c242488ee8828e3403d5cdb3d95cc94bef56f4a95cbd6d6f484c7f9762c4abd"), looks := false }, kinds := [], alts := [], laidByText := true, laidKinds := [.data, .wider, .wider, .wider, .wider, .wider], laidTests := true, laidLooks := .later }
def JournalUndoUptoCardSaid : Prop := Claim7.holds Tryz.pinned (.plain (OpenSpec.upto journalUndoSpec)) journalUndoUptoCard

/-- THE SECOND FORM's CARD OF 'lockfastlaw19.JournalRedo'. -/
def journalRedoUptoCard : Claim7 := { stood := { row := journalRedoUptoRow, standIns := [], harness := (true, "8c242488ee8828e3403d5cdb3d95cc94bef56f4a95cbd6d6f484c7f9762c4abd"), looks := false }, kinds := [], alts := [], laidByText := true, laidKinds := [.data, .wider, .wider, .wider, .wider, .wider], laidTests := true, laidLooks := .later }
def JournalRedoUptoCardSaid : Prop := Claim7.holds Tryz.pinned (.plain (OpenSpec.upto journalRedoSpec)) journalRedoUptoCard

/-- THE SECOND FORM's CARD OF 'lockfastlaw19.JournalGrows'. -/
def journalGrowsUptoCard : Claim7 := { stood := { row := journalGrowsUptoRow, standIns := [], harness := (true, "8c242488ee8828e3403d5cdb3d95cc94bef56f4a95cbd6d6f484c7f9762c4abd"), looks := false }, kinds := [], alts := [], laidByText := true, laidKinds := [.data, .wider, .wider, .wider, .wider, .wider], laidTests := true, laidLooks := .later }
def JournalGrowsUptoCardSaid : Prop := Claim7.holds Tryz.pinned (.plain (OpenSpec.upto journalGrowsSpec)) journalGrowsUptoCard

/-- THE SECOND FORM's CARD OF 'lockfastlaw19.JournalHeals'. -/
def journalHealsUptoCard : Claim7 := { stood := { row := journalHealsUptoRow, standIns := [], harness := (true, "8c242488ee8828e3403d5cdb3d95cc94bef56f4a95cbd6d6f484c7f9762c4abd"), looks := false }, kinds := [], alts := [], laidByText := true, laidKinds := [.data, .wider, .wider, .wider, .wider, .wider], laidTests := true, laidLooks := .later }
def JournalHealsUptoCardSaid : Prop := Claim7.holds Tryz.pinned (.plain (OpenSpec.upto journalHealsSpec)) journalHealsUptoCard

/-- THE SECOND FORM's CARD OF 'lockfastlaw19.JournalSteps'. -/
def journalStepsUptoCard : Claim7 := { stood := { row := journalStepsUptoRow, standIns := [], harness := (true, "8c242488ee8828e3403d5cdb3d95cc94bef56f4a95cbd6d6f484c7f9762c4abd"), looks := false }, kinds := [], alts := [], laidByText := true, laidKinds := [.data, .wider, .wider, .wider, .wider, .wider], laidTests := true, laidLooks := .later }
def JournalStepsUptoCardSaid : Prop := Claim7.holds Tryz.pinned (.plain (OpenSpec.upto journalStepsSpec)) journalStepsUptoCard

/-- THE SECOND FORM's CARD OF 'lockfastlaw19.JournalSaves'. -/
def journalSavesUptoCard : Claim7 := { stood := { row := journalSavesUptoRow, standIns := [], harness := (true, "8c242488ee8828e3403d5cdb3d95cc94bef56f4a95cbd6d6f484c7f9762c4abd"), looks := false }, kinds := [], alts := [], laidByText := true, laidKinds := [.data, .wider, .wider, .wider, .wider, .wider], laidTests := true, laidLooks := .later }
def JournalSavesUptoCardSaid : Prop := Claim7.holds Tryz.pinned (.plain (OpenSpec.upto journalSavesSpec)) journalSavesUptoCard
end Rows
end Go.Proofs.YtkkbngcgphlikaaGreatDoor
