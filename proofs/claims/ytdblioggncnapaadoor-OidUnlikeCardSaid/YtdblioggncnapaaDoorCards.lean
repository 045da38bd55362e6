/-
  DERIVED. GIVEN WITH THE SEED: THE CARDS: each row of YtdblioggncnapaaDoorRows.lean that lists a variable, with what it lists TIED to the program's text (the seventh form; the later family's looks); each row that meets fmt, with fmt's text TOLD by the authors' own Lean function (tested against real Go, not proved from fmt's source: count such statements apart). THE CARD IS WHAT COUNTS. Prove the row's statement (the work); the ties are given (YtdblioggncnapaaDoorTie.lean); close each card by the builder's one call (the guide's Derived/Test/ToyasCard.lean, 'card_holds'). Laid BY PROGRAM, IN A SANDBOX (cutbox-door.mjs). By AI agents, Wed Nov 11 2026. No macro, syntax, notation, axiom, sorry.
-/
import Derived.Test.YtdblioggncnapaaDoorRows
import GoSem.ClaimSeven
namespace Go.Proofs.YtdblioggncnapaaDoor
namespace Rows

/-- THE TIED CARD OF 'lockfastlaw08.OidHeaders'. -/
def oidHeadersCard : Claim7 := { stood := { row := oidHeadersRow, standIns := [], harness := (true, "6242e2cc461185b51b3115b2bd6bcf1d4ca4494c828d2875927f169a22e9a14f"), looks := false }, kinds := [], alts := [], laidByText := true, laidKinds := [.data, .data, .data, .data, .pinned], laidTests := true, laidLooks := .later }
def OidHeadersCardSaid : Prop := Claim7.holds Tryd.pinned (.plain (OpenSpec.ofChange oidHeadersSpec)) oidHeadersCard

/-- THE TIED CARD OF 'lockfastlaw08.OidTexts'. -/
def oidTextsCard : Claim7 := { stood := { row := oidTextsRow, standIns := [], harness := (true, "6242e2cc461185b51b3115b2bd6bcf1d4ca4494c828d2875927f169a22e9a14f"), looks := false }, kinds := [], alts := [], laidByText := true, laidKinds := [.data, .data, .data, .data, .pinned], laidTests := true, laidLooks := .later }
def OidTextsCardSaid : Prop := Claim7.holds Tryd.pinned (.plain (OpenSpec.ofChange oidTextsSpec)) oidTextsCard

/-- THE TIED CARD OF 'lockfastlaw08.OidBack'. -/
def oidBackCard : Claim7 := { stood := { row := oidBackRow, standIns := [], harness := (true, "6242e2cc461185b51b3115b2bd6bcf1d4ca4494c828d2875927f169a22e9a14f"), looks := false }, kinds := [], alts := [], laidByText := true, laidKinds := [.data, .data, .data, .data, .pinned], laidTests := true, laidLooks := .later }
def OidBackCardSaid : Prop := Claim7.holds Tryd.pinned (.plain (OpenSpec.ofChange oidBackSpec)) oidBackCard

/-- THE TIED CARD OF 'lockfastlaw08.OidSigns'. -/
def oidSignsCard : Claim7 := { stood := { row := oidSignsRow, standIns := [], harness := (true, "6242e2cc461185b51b3115b2bd6bcf1d4ca4494c828d2875927f169a22e9a14f"), looks := false }, kinds := [], alts := [], laidByText := true, laidKinds := [.data, .data, .data, .data, .pinned], laidTests := true, laidLooks := .later }
def OidSignsCardSaid : Prop := Claim7.holds Tryd.pinned (.plain (OpenSpec.ofChange oidSignsSpec)) oidSignsCard

/-- THE TIED CARD OF 'lockfastlaw08.OidUnlike'. -/
def oidUnlikeCard : Claim7 := { stood := { row := oidUnlikeRow, standIns := [], harness := (true, "6242e2cc461185b51b3115b2bd6bcf1d4ca4494c828d2875927f169a22e9a14f"), looks := false }, kinds := [], alts := [], laidByText := true, laidKinds := [.data, .data, .data, .data, .pinned], laidTests := true, laidLooks := .later }
def OidUnlikeCardSaid : Prop := Claim7.holds Tryd.pinned (.plain (OpenSpec.ofChange oidUnlikeSpec)) oidUnlikeCard

/-- THE SECOND FORM's CARD OF 'lockfastlaw08.OidHeaders'. -/
def oidHeadersUptoCard : Claim7 := { stood := { row := oidHeadersUptoRow, standIns := [], harness := (true, "6242e2cc461185b51b3115b2bd6bcf1d4ca4494c828d2875927f169a22e9a14f"), looks := false }, kinds := [], alts := [], laidByText := true, laidKinds := [.data, .data, .data, .data, .pinned], laidTests := true, laidLooks := .later }
def OidHeadersUptoCardSaid : Prop := Claim7.holds Tryd.pinned (.plain (OpenSpec.upto oidHeadersSpec)) oidHeadersUptoCard

/-- THE SECOND FORM's CARD OF 'lockfastlaw08.OidTexts'. -/
def oidTextsUptoCard : Claim7 := { stood := { row := oidTextsUptoRow, standIns := [], harness := (true, "6242e2cc461185b51b3115b2bd6bcf1d4ca4494c828d2875927f169a22e9a14f"), looks := false }, kinds := [], alts := [], laidByText := true, laidKinds := [.data, .data, .data, .data, .pinned], laidTests := true, laidLooks := .later }
def OidTextsUptoCardSaid : Prop := Claim7.holds Tryd.pinned (.plain (OpenSpec.upto oidTextsSpec)) oidTextsUptoCard

/-- THE SECOND FORM's CARD OF 'lockfastlaw08.OidBack'. -/
def oidBackUptoCard : Claim7 := { stood := { row := oidBackUptoRow, standIns := [], harness := (true, "6242e2cc461185b51b3115b2bd6bcf1d4ca4494c828d2875927f169a22e9a14f"), looks := false }, kinds := [], alts := [], laidByText := true, laidKinds := [.data, .data, .data, .data, .pinned], laidTests := true, laidLooks := .later }
def OidBackUptoCardSaid : Prop := Claim7.holds Tryd.pinned (.plain (OpenSpec.upto oidBackSpec)) oidBackUptoCard

/-- THE SECOND FORM's CARD OF 'lockfastlaw08.OidSigns'. -/
def oidSignsUptoCard : Claim7 := { stood := { row := oidSignsUptoRow, standIns := [], harness := (true, "6242e2cc461185b51b3115b2bd6bcf1d4ca4494c828d2875927f169a22e9a14f"), looks := false }, kinds := [], alts := [], laidByText := true, laidKinds := [.data, .data, .data, .data, .pinned], laidTests := true, laidLooks := .later }
def OidSignsUptoCardSaid : Prop := Claim7.holds Tryd.pinned (.plain (OpenSpec.upto oidSignsSpec)) oidSignsUptoCard

/-- THE SECOND FORM's CARD OF 'lockfastlaw08.OidUnlike'. -/
def oidUnlikeUptoCard : Claim7 := { stood := { row := oidUnlikeUptoRow, standIns := [], harness := (true, "6242e2cc461185b51b3115b2bd6bcf1d4ca4494c828d2875927f169a22e9a14f"), looks := false }, kinds := [], alts := [], laidByText := true, laidKinds := [.data, .data, .data, .data, .pinned], laidTests := true, laidLooks := .later }
def OidUnlikeUptoCardSaid : Prop := Claim7.holds Tryd.pinned (.plain (OpenSpec.upto oidUnlikeSpec)) oidUnlikeUptoCard
end Rows
end Go.Proofs.YtdblioggncnapaaDoor
