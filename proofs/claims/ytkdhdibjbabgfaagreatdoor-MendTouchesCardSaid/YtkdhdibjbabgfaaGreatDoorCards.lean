/-
  DERIVED. GIVEN WITH THE SEED: THE CARDS: each row of YtkdhdibjbabgfaaGreatDoorRows.lean that lists a variable, with what it lists TIED to the program's text (the seventh form; the later family's looks); each row that meets fmt, with fmt's text TOLD by the authors' own Lean function (tested against real Go, not proved from fmt's source: count such statements apart). THE CARD IS WHAT COUNTS. Prove the row's statement (the work); the ties are given (YtkdhdibjbabgfaaGreatDoorTie.lean); close each card by the builder's one call (the guide's Derived/Test/ToyasCard.lean, 'card_holds'). Laid BY PROGRAM, IN A SANDBOX (cutbox-door.mjs). By AI agents, Wed Nov 11 2026. No macro, syntax, notation, axiom, sorry.
-/
import Derived.Test.YtkdhdibjbabgfaaGreatDoorRows
import GoSem.ClaimSeven
namespace Go.Proofs.YtkdhdibjbabgfaaGreatDoor
namespace Rows

/-- THE TIED CARD OF 'lockfastlaw15.MendLanes'. -/
def mendLanesCard : Claim7 := { stood := { row := mendLanesRow, standIns := [], harness := (true, "359344a909b37f3cbf57cd6e646e314ed68aadfc8a471ecd15ff2e3fa2c23452"), looks := false }, kinds := [], alts := [], laidByText := true, laidKinds := [.data, .wider, .wider, .wider, .wider, .wider], laidTests := true, laidLooks := .later }
def MendLanesCardSaid : Prop := Claim7.holds Tryz.pinned (.plain (OpenSpec.ofChange mendLanesSpec)) mendLanesCard

/-- THE TIED CARD OF 'lockfastlaw15.MendWhole'. -/
def mendWholeCard : Claim7 := { stood := { row := mendWholeRow, standIns := [], harness := (true, "359344a909b37f3cbf57cd6e646e314ed68aadfc8a471ecd15ff2e3fa2c23452"), looks := false }, kinds := [], alts := [], laidByText := true, laidKinds := [.data, .wider, .wider, .wider, .wider, .wider], laidTests := true, laidLooks := .later }
def MendWholeCardSaid : Prop := Claim7.holds Tryz.pinned (.plain (OpenSpec.ofChange mendWholeSpec)) mendWholeCard

/-- THE TIED CARD OF 'lockfastlaw15.MendBytes'. -/
def mendBytesCard : Claim7 := { stood := { row := mendBytesRow, standIns := [], harness := (true, "359344a909b37f3cbf57cd6e646e314ed68aadfc8a471ecd15ff2e3fa2c23452"), looks := false }, kinds := [], alts := [], laidByText := true, laidKinds := [.data, .wider, .wider, .wider, .wider, .wider], laidTests := true, laidLooks := .later }
def MendBytesCardSaid : Prop := Claim7.holds Tryz.pinned (.plain (OpenSpec.ofChange mendBytesSpec)) mendBytesCard

/-- THE TIED CARD OF 'lockfastlaw15.MendAgain'. -/
def mendAgainCard : Claim7 := { stood := { row := mendAgainRow, standIns := [], harness := (true, "359344a909b37f3cbf57cd6e646e314ed68aadfc8a471ecd15ff2e3fa2c23452"), looks := false }, kinds := [], alts := [], laidByText := true, laidKinds := [.data, .wider, .wider, .wider, .wider, .wider], laidTests := true, laidLooks := .later }
def MendAgainCardSaid : Prop := Claim7.holds Tryz.pinned (.plain (OpenSpec.ofChange mendAgainSpec)) mendAgainCard

/-- THE TIED CARD OF 'lockfastlaw15.MendPart'. -/
def mendPartCard : Claim7 := { stood := { row := mendPartRow, standIns := [], harness := (true, "359344a909b37f3cbf57cd6e646e314ed68aadfc8a471ecd15ff2e3fa2c23452"), looks := false }, kinds := [], alts := [], laidByText := true, laidKinds := [.data, .wider, .wider, .wider, .wider, .wider], laidTests := true, laidLooks := .later }
def MendPartCardSaid : Prop := Claim7.holds Tryz.pinned (.plain (OpenSpec.ofChange mendPartSpec)) mendPartCard

/-- THE TIED CARD OF 'lockfastlaw15.MendTouches'. -/
def mendTouchesCard : Claim7 := { stood := { row := mendTouchesRow, standIns := [], harness := (true, "359344a909b37f3cbf57cd6e646e314ed68aadfc8a471ecd15ff2e3fa2c23452"), looks := false }, kinds := [], alts := [], laidByText := true, laidKinds := [.data, .wider, .wider, .wider, .wider, .wider], laidTests := true, laidLooks := .later }
def MendTouchesCardSaid : Prop := Claim7.holds Tryz.pinned (.plain (OpenSpec.ofChange mendTouchesSpec)) mendTouchesCard

/-- THE SECOND FORM's CARD OF 'lockfastlaw15.MendLanes'. -/
def mendLanesUptoCard : Claim7 := { stood := { row := mendLanesUptoRow, standIns := [], harness := (true, "359344a909b37f3cbf57cd6e646e314ed68aadfc8a471ecd15ff2e3fa2c23452"), looks := false }, kinds := [], alts := [], laidByText := true, laidKinds := [.data, .wider, .wider, .wider, .wider, .wider], laidTests := true, laidLooks := .later }
def MendLanesUptoCardSaid : Prop := Claim7.holds Tryz.pinned (.plain (OpenSpec.upto mendLanesSpec)) mendLanesUptoCard

/-- THE SECOND FORM's CARD OF 'lockfastlaw15.MendWhole'. -/
def mendWholeUptoCard : Claim7 := { stood := { row := mendWholeUptoRow, standIns := [], harness := (true, "359344a909b37f3cbf57cd6e646e314ed68aadfc8a471ecd15ff2e3fa2c23452"), looks := false }, kinds := [], alts := [], laidByText := true, laidKinds := [.data, .wider, .wider, .wider, .wider, .wider], laidTests := true, laidLooks := .later }
def MendWholeUptoCardSaid : Prop := Claim7.holds Tryz.pinned (.plain (OpenSpec.upto mendWholeSpec)) mendWholeUptoCard

/-- THE SECOND FORM's CARD OF 'lockfastlaw15.MendBytes'. -/
def mendBytesUptoCard : Claim7 := { stood := { row := mendBytesUptoRow, standIns := [], harness := (true, "359344a909b37f3cbf57cd6e646e314ed68aadfc8a471ecd15ff2e3fa2c23452"), looks := false }, kinds := [], alts := [], laidByText := true, laidKinds := [.data, .wider, .wider, .wider, .wider, .wider], laidTests := true, laidLooks := .later }
def MendBytesUptoCardSaid : Prop := Claim7.holds Tryz.pinned (.plain (OpenSpec.upto mendBytesSpec)) mendBytesUptoCard

/-- THE SECOND FORM's CARD OF 'lockfastlaw15.MendAgain'. -/
def mendAgainUptoCard : Claim7 := { stood := { row := mendAgainUptoRow, standIns := [], harness := (true, "359344a909b37f3cbf57cd6e646e314ed68aadfc8a471ecd15ff2e3fa2c23452"), looks := false }, kinds := [], alts := [], laidByText := true, laidKinds := [.data, .wider, .wider, .wider, .wider, .wider], laidTests := true, laidLooks := .later }
def MendAgainUptoCardSaid : Prop := Claim7.holds Tryz.pinned (.plain (OpenSpec.upto mendAgainSpec)) mendAgainUptoCard

/-- THE SECOND FORM's CARD OF 'lockfastlaw15.MendPart'. -/
def mendPartUptoCard : Claim7 := { stood := { row := mendPartUptoRow, standIns := [], harness := (true, "359344a909b37f3cbf57cd6e646e314ed68aadfc8a471ecd15ff2e3fa2c23452"), looks := false }, kinds := [], alts := [], laidByText := true, laidKinds := [.data, .wider, .wider, .wider, .wider, .wider], laidTests := true, laidLooks := .later }
def MendPartUptoCardSaid : Prop := Claim7.holds Tryz.pinned (.plain (OpenSpec.upto mendPartSpec)) mendPartUptoCard

/-- THE SECOND FORM's CARD OF 'lockfastlaw15.MendTouches'. -/
def mendTouchesUptoCard : Claim7 := { stood := { row := mendTouchesUptoRow, standIns := [], harness := (true, "359344a909b37f3cbf57cd6e646e314ed68aadfc8a471ecd15ff2e3fa2c23452"), looks := false }, kinds := [], alts := [], laidByText := true, laidKinds := [.data, .wider, .wider, .wider, .wider, .wider], laidTests := true, laidLooks := .later }
def MendTouchesUptoCardSaid : Prop := Claim7.holds Tryz.pinned (.plain (OpenSpec.upto mendTouchesSpec)) mendTouchesUptoCard
end Rows
end Go.Proofs.YtkdhdibjbabgfaaGreatDoor
