/-
  DERIVED. GIVEN WITH THE SEED: THE CARDS: each row of YtlnmpgbknalagaaDoorRows.lean that lists a variable, with what it lists TIED to the program's text (the seventh form; the later family's looks); each row that meets fmt, with fmt's text TOLD by the authors' own Lean function (tested against real Go, not proved from fmt's source: count such statements apart). THE CARD IS WHAT COUNTS. Prove the row's statement (the work); the ties are given (YtlnmpgbknalagaaDoorTie.lean); close each card by the builder's one call (the guide's Derived/Test/ToyasCard.lean, 'card_holds'). Laid BY PROGRAM, IN A SANDBOX (cutbox-door.mjs). By AI agents, Wed Nov 11 2026. No macro, syntax, notation, axiom, sorry.
-/
import Derived.Test.YtlnmpgbknalagaaDoorRows
import GoSem.ClaimSeven
namespace Go.Proofs.YtlnmpgbknalagaaDoor
namespace Rows

/-- THE TIED CARD OF 'spoollaw06.LevelPuts'. -/
def levelPutsCard : Claim7 := { stood := { row := levelPutsRow, standIns := [], harness := (true, "f32d831d0fb340c052836e6282934960d3372f4d59f41e2c938e3912ae95b335"), looks := false }, kinds := [], alts := [], laidByText := true, laidKinds := [.data], laidTests := true, laidLooks := .later }
def LevelPutsCardSaid : Prop := Claim7.holds Tryd.pinned (.plain (OpenSpec.ofChange levelPutsSpec)) levelPutsCard

/-- THE TIED CARD OF 'spoollaw06.LevelLoud'. -/
def levelLoudCard : Claim7 := { stood := { row := levelLoudRow, standIns := [], harness := (true, "f32d831d0fb340c052836e6282934960d3372f4d59f41e2c938e3912ae95b335"), looks := false }, kinds := [], alts := [], laidByText := true, laidKinds := [.data], laidTests := true, laidLooks := .later }
def LevelLoudCardSaid : Prop := Claim7.holds Tryd.pinned (.plain (OpenSpec.ofChange levelLoudSpec)) levelLoudCard

/-- THE TIED CARD OF 'spoollaw06.LevelFills'. -/
def levelFillsCard : Claim7 := { stood := { row := levelFillsRow, standIns := [], harness := (true, "f32d831d0fb340c052836e6282934960d3372f4d59f41e2c938e3912ae95b335"), looks := false }, kinds := [], alts := [], laidByText := true, laidKinds := [.data], laidTests := true, laidLooks := .later }
def LevelFillsCardSaid : Prop := Claim7.holds Tryd.pinned (.plain (OpenSpec.ofChange levelFillsSpec)) levelFillsCard

/-- THE TIED CARD OF 'spoollaw06.LevelPlays'. -/
def levelPlaysCard : Claim7 := { stood := { row := levelPlaysRow, standIns := [], harness := (true, "f32d831d0fb340c052836e6282934960d3372f4d59f41e2c938e3912ae95b335"), looks := false }, kinds := [], alts := [], laidByText := true, laidKinds := [.data], laidTests := true, laidLooks := .later }
def LevelPlaysCardSaid : Prop := Claim7.holds Tryd.pinned (.plain (OpenSpec.ofChange levelPlaysSpec)) levelPlaysCard

/-- THE TIED CARD OF 'spoollaw06.LevelParts'. -/
def levelPartsCard : Claim7 := { stood := { row := levelPartsRow, standIns := [], harness := (true, "f32d831d0fb340c052836e6282934960d3372f4d59f41e2c938e3912ae95b335"), looks := false }, kinds := [], alts := [], laidByText := true, laidKinds := [.data], laidTests := true, laidLooks := .later }
def LevelPartsCardSaid : Prop := Claim7.holds Tryd.pinned (.plain (OpenSpec.ofChange levelPartsSpec)) levelPartsCard

/-- THE TIED CARD OF 'spoollaw06.LevelSigns'. -/
def levelSignsCard : Claim7 := { stood := { row := levelSignsRow, standIns := [], harness := (true, "f32d831d0fb340c052836e6282934960d3372f4d59f41e2c938e3912ae95b335"), looks := false }, kinds := [], alts := [], laidByText := true, laidKinds := [.data], laidTests := true, laidLooks := .later }
def LevelSignsCardSaid : Prop := Claim7.holds Tryd.pinned (.plain (OpenSpec.ofChange levelSignsSpec)) levelSignsCard

/-- THE SECOND FORM's CARD OF 'spoollaw06.LevelPuts'. -/
def levelPutsUptoCard : Claim7 := { stood := { row := levelPutsUptoRow, standIns := [], harness := (true, "f32d831d0fb340c052836e6282934960d3372f4d59f41e2c938e3912ae95b335"), looks := false }, kinds := [], alts := [], laidByText := true, laidKinds := [.data], laidTests := true, laidLooks := .later }
def LevelPutsUptoCardSaid : Prop := Claim7.holds Tryd.pinned (.plain (OpenSpec.upto levelPutsSpec)) levelPutsUptoCard

/-- THE SECOND FORM's CARD OF 'spoollaw06.LevelLoud'. -/
def levelLoudUptoCard : Claim7 := { stood := { row := levelLoudUptoRow, standIns := [], harness := (true, "f32d831d0fb340c052836e6282934960d3372f4d59f41e2c938e3912ae95b335"), looks := false }, kinds := [], alts := [], laidByText := true, laidKinds := [.data], laidTests := true, laidLooks := .later }
def LevelLoudUptoCardSaid : Prop := Claim7.holds Tryd.pinned (.plain (OpenSpec.upto levelLoudSpec)) levelLoudUptoCard

/-- THE SECOND FORM's CARD OF 'spoollaw06.LevelFills'. -/
def levelFillsUptoCard : Claim7 := { stood := { row := levelFillsUptoRow, standIns := [], harness := (true, "f32d831d0fb340c052836e6282934960d3372f4d59f41e2c938e3912ae95b335"), looks := false }, kinds := [], alts := [], laidByText := true, laidKinds := [.data], laidTests := true, laidLooks := .later }
def LevelFillsUptoCardSaid : Prop := Claim7.holds Tryd.pinned (.plain (OpenSpec.upto levelFillsSpec)) levelFillsUptoCard

/-- THE SECOND FORM's CARD OF 'spoollaw06.LevelPlays'. -/
def levelPlaysUptoCard : Claim7 := { stood := { row := levelPlaysUptoRow, standIns := [], harness := (true, "f32d831d0fb340c052836e6282934960d3372f4d59f41e2c938e3912ae95b335"), looks := false }, kinds := [], alts := [], laidByText := true, laidKinds := [.data], laidTests := true, laidLooks := .later }
def LevelPlaysUptoCardSaid : Prop := Claim7.holds Tryd.pinned (.plain (OpenSpec.upto levelPlaysSpec)) levelPlaysUptoCard

/-- THE SECOND FORM's CARD OF 'spoollaw06.LevelParts'. -/
def levelPartsUptoCard : Claim7 := { stood := { row := levelPartsUptoRow, standIns := [], harness := (true, "f32d831d0fb340c052836e6282934960d3372f4d59f41e2c938e3912ae95b335"), looks := false }, kinds := [], alts := [], laidByText := true, laidKinds := [.data], laidTests := true, laidLooks := .later }
def LevelPartsUptoCardSaid : Prop := Claim7.holds Tryd.pinned (.plain (OpenSpec.upto levelPartsSpec)) levelPartsUptoCard

/-- THE SECOND FORM's CARD OF 'spoollaw06.LevelSigns'. -/
def levelSignsUptoCard : Claim7 := { stood := { row := levelSignsUptoRow, standIns := [], harness := (true, "f32d831d0fb340c052836e6282934960d3372f4d59f41e2c938e3912ae95b335"), looks := false }, kinds := [], alts := [], laidByText := true, laidKinds := [.data], laidTests := true, laidLooks := .later }
def LevelSignsUptoCardSaid : Prop := Claim7.holds Tryd.pinned (.plain (OpenSpec.upto levelSignsSpec)) levelSignsUptoCard
end Rows
end Go.Proofs.YtlnmpgbknalagaaDoor
