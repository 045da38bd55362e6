/-
  DERIVED. GIVEN WITH THE SEED: THE CARDS: each row of YtcidhnpmmohfjaaDoorRows.lean that lists a variable, with what it lists TIED to the program's text (the seventh form; the later family's looks); each row that meets fmt, with fmt's text TOLD by the authors' own Lean function (tested against real Go, not proved from fmt's source: count such statements apart). THE CARD IS WHAT COUNTS. Prove the row's statement (the work); the ties are given (YtcidhnpmmohfjaaDoorTie.lean); close each card by the builder's one call (the guide's Derived/Test/ToyasCard.lean, 'card_holds'). Laid BY PROGRAM, IN A SANDBOX (cutbox-door.mjs). By AI agents, Wed Nov 11 2026. No macro, syntax, notation, axiom, sorry.
-/
import Derived.Test.YtcidhnpmmohfjaaDoorRows
import GoSem.ClaimSeven
namespace Go.Proofs.YtcidhnpmmohfjaaDoor
namespace Rows

/-- THE TIED CARD OF 'lockfastlaw01.FieldTells'. -/
def fieldTellsCard : Claim7 := { stood := { row := fieldTellsRow, standIns := [], harness := (true, "f0fd318f8401f4a1646542751eacf63ea6b3bf9b15ea702132088b0d0086ed43"), looks := false }, kinds := [], alts := [], laidByText := true, laidKinds := [.data], laidTests := true, laidLooks := .later }
def FieldTellsCardSaid : Prop := Claim7.holds Tryd.pinned (.plain (OpenSpec.ofChange fieldTellsSpec)) fieldTellsCard

/-- THE TIED CARD OF 'lockfastlaw01.FieldCounts'. -/
def fieldCountsCard : Claim7 := { stood := { row := fieldCountsRow, standIns := [], harness := (true, "f0fd318f8401f4a1646542751eacf63ea6b3bf9b15ea702132088b0d0086ed43"), looks := false }, kinds := [], alts := [], laidByText := true, laidKinds := [.data], laidTests := true, laidLooks := .later }
def FieldCountsCardSaid : Prop := Claim7.holds Tryd.pinned (.plain (OpenSpec.ofChange fieldCountsSpec)) fieldCountsCard

/-- THE TIED CARD OF 'lockfastlaw01.FieldBack'. -/
def fieldBackCard : Claim7 := { stood := { row := fieldBackRow, standIns := [], harness := (true, "f0fd318f8401f4a1646542751eacf63ea6b3bf9b15ea702132088b0d0086ed43"), looks := false }, kinds := [], alts := [], laidByText := true, laidKinds := [.data], laidTests := true, laidLooks := .later }
def FieldBackCardSaid : Prop := Claim7.holds Tryd.pinned (.plain (OpenSpec.ofChange fieldBackSpec)) fieldBackCard

/-- THE TIED CARD OF 'lockfastlaw01.FieldApart'. -/
def fieldApartCard : Claim7 := { stood := { row := fieldApartRow, standIns := [], harness := (true, "f0fd318f8401f4a1646542751eacf63ea6b3bf9b15ea702132088b0d0086ed43"), looks := false }, kinds := [], alts := [], laidByText := true, laidKinds := [.data], laidTests := true, laidLooks := .later }
def FieldApartCardSaid : Prop := Claim7.holds Tryd.pinned (.plain (OpenSpec.ofChange fieldApartSpec)) fieldApartCard

/-- THE TIED CARD OF 'lockfastlaw01.FieldFirst'. -/
def fieldFirstCard : Claim7 := { stood := { row := fieldFirstRow, standIns := [], harness := (true, "f0fd318f8401f4a1646542751eacf63ea6b3bf9b15ea702132088b0d0086ed43"), looks := false }, kinds := [], alts := [], laidByText := true, laidKinds := [.data], laidTests := true, laidLooks := .later }
def FieldFirstCardSaid : Prop := Claim7.holds Tryd.pinned (.plain (OpenSpec.ofChange fieldFirstSpec)) fieldFirstCard

/-- THE TIED CARD OF 'lockfastlaw01.FieldPlaces'. -/
def fieldPlacesCard : Claim7 := { stood := { row := fieldPlacesRow, standIns := [], harness := (true, "f0fd318f8401f4a1646542751eacf63ea6b3bf9b15ea702132088b0d0086ed43"), looks := false }, kinds := [], alts := [], laidByText := true, laidKinds := [.data], laidTests := true, laidLooks := .later }
def FieldPlacesCardSaid : Prop := Claim7.holds Tryd.pinned (.plain (OpenSpec.ofChange fieldPlacesSpec)) fieldPlacesCard

/-- THE SECOND FORM's CARD OF 'lockfastlaw01.FieldTells'. -/
def fieldTellsUptoCard : Claim7 := { stood := { row := fieldTellsUptoRow, standIns := [], harness := (true, "f0fd318f8401f4a1646542751eacf63ea6b3bf9b15ea702132088b0d0086ed43"), looks := false }, kinds := [], alts := [], laidByText := true, laidKinds := [.data], laidTests := true, laidLooks := .later }
def FieldTellsUptoCardSaid : Prop := Claim7.holds Tryd.pinned (.plain (OpenSpec.upto fieldTellsSpec)) fieldTellsUptoCard

/-- THE SECOND FORM's CARD OF 'lockfastlaw01.FieldCounts'. -/
def fieldCountsUptoCard : Claim7 := { stood := { row := fieldCountsUptoRow, standIns := [], harness := (true, "f0fd318f8401f4a1646542751eacf63ea6b3bf9b15ea702132088b0d0086ed43"), looks := false }, kinds := [], alts := [], laidByText := true, laidKinds := [.data], laidTests := true, laidLooks := .later }
def FieldCountsUptoCardSaid : Prop := Claim7.holds Tryd.pinned (.plain (OpenSpec.upto fieldCountsSpec)) fieldCountsUptoCard

/-- THE SECOND FORM's CARD OF 'lockfastlaw01.FieldBack'. -/
def fieldBackUptoCard : Claim7 := { stood := { row := fieldBackUptoRow, standIns := [], harness := (true, "f0fd318f8401f4a1646542751eacf63ea6b3bf9b15ea702132088b0d0086ed43"), looks := false }, kinds := [], alts := [], laidByText := true, laidKinds := [.data], laidTests := true, laidLooks := .later }
def FieldBackUptoCardSaid : Prop := Claim7.holds Tryd.pinned (.plain (OpenSpec.upto fieldBackSpec)) fieldBackUptoCard

/-- THE SECOND FORM's CARD OF 'lockfastlaw01.FieldApart'. -/
def fieldApartUptoCard : Claim7 := { stood := { row := fieldApartUptoRow, standIns := [], harness := (true, "f0fd318f8401f4a1646542751eacf63ea6b3bf9b15ea702132088b0d0086ed43"), looks := false }, kinds := [], alts := [], laidByText := true, laidKinds := [.data], laidTests := true, laidLooks := .later }
def FieldApartUptoCardSaid : Prop := Claim7.holds Tryd.pinned (.plain (OpenSpec.upto fieldApartSpec)) fieldApartUptoCard

/-- THE SECOND FORM's CARD OF 'lockfastlaw01.FieldFirst'. -/
def fieldFirstUptoCard : Claim7 := { stood := { row := fieldFirstUptoRow, standIns := [], harness := (true, "f0fd318f8401f4a1646542751eacf63ea6b3bf9b15ea702132088b0d0086ed43"), looks := false }, kinds := [], alts := [], laidByText := true, laidKinds := [.data], laidTests := true, laidLooks := .later }
def FieldFirstUptoCardSaid : Prop := Claim7.holds Tryd.pinned (.plain (OpenSpec.upto fieldFirstSpec)) fieldFirstUptoCard

/-- THE SECOND FORM's CARD OF 'lockfastlaw01.FieldPlaces'. -/
def fieldPlacesUptoCard : Claim7 := { stood := { row := fieldPlacesUptoRow, standIns := [], harness := (true, "f0fd318f8401f4a1646542751eacf63ea6b3bf9b15ea702132088b0d0086ed43"), looks := false }, kinds := [], alts := [], laidByText := true, laidKinds := [.data], laidTests := true, laidLooks := .later }
def FieldPlacesUptoCardSaid : Prop := Claim7.holds Tryd.pinned (.plain (OpenSpec.upto fieldPlacesSpec)) fieldPlacesUptoCard
end Rows
end Go.Proofs.YtcidhnpmmohfjaaDoor
