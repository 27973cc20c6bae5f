/-
  DERIVED. GIVEN WITH THE SEED: THE CARDS: each row of YtfohinlldchdpaaGreatDoorRows.lean that lists a variable, with what it lists TIED to the program's text (the seventh form; the later family's looks); each row that meets fmt, with fmt's text TOLD by the authors' own Lean function (tested against real Go, not proved from fmt's source: count such statements apart). THE CARD IS WHAT COUNTS. Prove the row's statement (the work); the ties are given (YtfohinlldchdpaaGreatDoorTie.lean); close each card by the builder's one call (the guide's Derived/Test/ToyasCard.lean, 'card_holds'). Laid BY PROGRAM, IN A SANDBOX (cutbox-door.mjs). By AI agents, Wed Nov 11 2026. No macro, syntax, notation, axiom, sorry.
-/
import Derived.Test.YtfohinlldchdpaaGreatDoorRows
import GoSem.ClaimSeven
namespace Go.Proofs.YtfohinlldchdpaaGreatDoor
namespace Rows

/-- THE TIED CARD OF 'spoollaw15.EncSizes'. -/
def encSizesCard : Claim7 := { stood := { row := encSizesRow, standIns := [], harness := (true, "19ebfb909b22046626ecc66d9d9aca0d28838f3321b178c8ca1fc19ad75d3e54"), looks := false }, kinds := [], alts := [], laidByText := true, laidKinds := [.data, .data, .pinned], laidTests := true, laidLooks := .later }
def EncSizesCardSaid : Prop := Claim7.holds Tryz.pinned (.plain (OpenSpec.ofChange encSizesSpec)) encSizesCard

/-- THE TIED CARD OF 'spoollaw15.EncDecodes'. -/
def encDecodesCard : Claim7 := { stood := { row := encDecodesRow, standIns := [], harness := (true, "19ebfb909b22046626ecc66d9d9aca0d28838f3321b178c8ca1fc19ad75d3e54"), looks := false }, kinds := [], alts := [], laidByText := true, laidKinds := [.data, .data, .pinned], laidTests := true, laidLooks := .later }
def EncDecodesCardSaid : Prop := Claim7.holds Tryz.pinned (.plain (OpenSpec.ofChange encDecodesSpec)) encDecodesCard

/-- THE TIED CARD OF 'spoollaw15.EncSilence'. -/
def encSilenceCard : Claim7 := { stood := { row := encSilenceRow, standIns := [], harness := (true, "19ebfb909b22046626ecc66d9d9aca0d28838f3321b178c8ca1fc19ad75d3e54"), looks := false }, kinds := [], alts := [], laidByText := true, laidKinds := [.data, .data, .pinned], laidTests := true, laidLooks := .later }
def EncSilenceCardSaid : Prop := Claim7.holds Tryz.pinned (.plain (OpenSpec.ofChange encSilenceSpec)) encSilenceCard

/-- THE TIED CARD OF 'spoollaw15.EncPlays'. -/
def encPlaysCard : Claim7 := { stood := { row := encPlaysRow, standIns := [], harness := (true, "19ebfb909b22046626ecc66d9d9aca0d28838f3321b178c8ca1fc19ad75d3e54"), looks := false }, kinds := [], alts := [], laidByText := true, laidKinds := [.data, .data, .pinned], laidTests := true, laidLooks := .later }
def EncPlaysCardSaid : Prop := Claim7.holds Tryz.pinned (.plain (OpenSpec.ofChange encPlaysSpec)) encPlaysCard

/-- THE TIED CARD OF 'spoollaw15.EncParts'. -/
def encPartsCard : Claim7 := { stood := { row := encPartsRow, standIns := [], harness := (true, "19ebfb909b22046626ecc66d9d9aca0d28838f3321b178c8ca1fc19ad75d3e54"), looks := false }, kinds := [], alts := [], laidByText := true, laidKinds := [.data, .data, .pinned], laidTests := true, laidLooks := .later }
def EncPartsCardSaid : Prop := Claim7.holds Tryz.pinned (.plain (OpenSpec.ofChange encPartsSpec)) encPartsCard

/-- THE TIED CARD OF 'spoollaw15.EncLevels'. -/
def encLevelsCard : Claim7 := { stood := { row := encLevelsRow, standIns := [], harness := (true, "19ebfb909b22046626ecc66d9d9aca0d28838f3321b178c8ca1fc19ad75d3e54"), looks := false }, kinds := [], alts := [], laidByText := true, laidKinds := [.data, .data, .pinned], laidTests := true, laidLooks := .later }
def EncLevelsCardSaid : Prop := Claim7.holds Tryz.pinned (.plain (OpenSpec.ofChange encLevelsSpec)) encLevelsCard

/-- THE TIED CARD OF 'spooltop.WholeWay'. -/
def wholeWayCard : Claim7 := { stood := { row := wholeWayRow, standIns := [], harness := (true, "19ebfb909b22046626ecc66d9d9aca0d28838f3321b178c8ca1fc19ad75d3e54"), looks := false }, kinds := [], alts := [], laidByText := true, laidKinds := [.data, .data, .pinned], laidTests := true, laidLooks := .later }
def WholeWayCardSaid : Prop := Claim7.holds Tryz.pinned (.plain (OpenSpec.ofChange wholeWaySpec)) wholeWayCard

/-- THE SECOND FORM's CARD OF 'spoollaw15.EncSizes'. -/
def encSizesUptoCard : Claim7 := { stood := { row := encSizesUptoRow, standIns := [], harness := (true, "19ebfb909b22046626ecc66d9d9aca0d28838f3321b178c8ca1fc19ad75d3e54"), looks := false }, kinds := [], alts := [], laidByText := true, laidKinds := [.data, .data, .pinned], laidTests := true, laidLooks := .later }
def EncSizesUptoCardSaid : Prop := Claim7.holds Tryz.pinned (.plain (OpenSpec.upto encSizesSpec)) encSizesUptoCard

/-- THE SECOND FORM's CARD OF 'spoollaw15.EncDecodes'. -/
def encDecodesUptoCard : Claim7 := { stood := { row := encDecodesUptoRow, standIns := [], harness := (true, "19ebfb909b22046626ecc66d9d9aca0d28838f3321b178c8ca1fc19ad75d3e54"), looks := false }, kinds := [], alts := [], laidByText := true, laidKinds := [.data, .data, .pinned], laidTests := true, laidLooks := .later }
def EncDecodesUptoCardSaid : Prop := Claim7.holds Tryz.pinned (.plain (OpenSpec.upto encDecodesSpec)) encDecodesUptoCard

/-- THE SECOND FORM's CARD OF 'spoollaw15.EncSilence'. -/
def encSilenceUptoCard : Claim7 := { stood := { row := encSilenceUptoRow, standIns := [], harness := (true, "19ebfb909b22046626ecc66d9d9aca0d28838f3321b178c8ca1fc19ad75d3e54"), looks := false }, kinds := [], alts := [], laidByText := true, laidKinds := [.data, .data, .pinned], laidTests := true, laidLooks := .later }
def EncSilenceUptoCardSaid : Prop := Claim7.holds Tryz.pinned (.plain (OpenSpec.upto encSilenceSpec)) encSilenceUptoCard

/-- THE SECOND FORM's CARD OF 'spoollaw15.EncPlays'. -/
def encPlaysUptoCard : Claim7 := { stood := { row := encPlaysUptoRow, standIns := [], harness := (true, "19ebfb909b22046626ecc66d9d9aca0d28838f3321b178c8ca1fc19ad75d3e54"), looks := false }, kinds := [], alts := [], laidByText := true, laidKinds := [.data, .data, .pinned], laidTests := true, laidLooks := .later }
def EncPlaysUptoCardSaid : Prop := Claim7.holds Tryz.pinned (.plain (OpenSpec.upto encPlaysSpec)) encPlaysUptoCard

/-- THE SECOND FORM's CARD OF 'spoollaw15.EncParts'. -/
def encPartsUptoCard : Claim7 := { stood := { row := encPartsUptoRow, standIns := [], harness := (true, "19ebfb909b22046626ecc66d9d9aca0d28838f3321b178c8ca1fc19ad75d3e54"), looks := false }, kinds := [], alts := [], laidByText := true, laidKinds := [.data, .data, .pinned], laidTests := true, laidLooks := .later }
def EncPartsUptoCardSaid : Prop := Claim7.holds Tryz.pinned (.plain (OpenSpec.upto encPartsSpec)) encPartsUptoCard

/-- THE SECOND FORM's CARD OF 'spoollaw15.EncLevels'. -/
def encLevelsUptoCard : Claim7 := { stood := { row := encLevelsUptoRow, standIns := [], harness := (true, "19ebfb909b22046626ecc66d9d9aca0d28838f3321b178c8ca1fc19ad75d3e54"), looks := false }, kinds := [], alts := [], laidByText := true, laidKinds := [.data, .data, .pinned], laidTests := true, laidLooks := .later }
def EncLevelsUptoCardSaid : Prop := Claim7.holds Tryz.pinned (.plain (OpenSpec.upto encLevelsSpec)) encLevelsUptoCard

/-- THE SECOND FORM's CARD OF 'spooltop.WholeWay'. -/
def wholeWayUptoCard : Claim7 := { stood := { row := wholeWayUptoRow, standIns := [], harness := (true, "19ebfb909b22046626ecc66d9d9aca0d28838f3321b178c8ca1fc19ad75d3e54"), looks := false }, kinds := [], alts := [], laidByText := true, laidKinds := [.data, .data, .pinned], laidTests := true, laidLooks := .later }
def WholeWayUptoCardSaid : Prop := Claim7.holds Tryz.pinned (.plain (OpenSpec.upto wholeWaySpec)) wholeWayUptoCard
end Rows
end Go.Proofs.YtfohinlldchdpaaGreatDoor
