/-
  DERIVED. GIVEN WITH THE SEED: THE CARDS: each row of YtimhemcoflpmcaaGreatDoorRows.lean that lists a variable, with what it lists TIED to the program's text (the seventh form; the later family's looks); each row that meets fmt, with fmt's text TOLD by the authors' own Lean function (tested against real Go, not proved from fmt's source: count such statements apart). THE CARD IS WHAT COUNTS. Prove the row's statement (the work); the ties are given (YtimhemcoflpmcaaGreatDoorTie.lean); close each card by the builder's one call (the guide's Derived/Test/ToyasCard.lean, 'card_holds'). Laid BY PROGRAM, IN A SANDBOX (cutbox-door.mjs). By AI agents, Wed Nov 11 2026. No macro, syntax, notation, axiom, sorry.
-/
import Derived.Test.YtimhemcoflpmcaaGreatDoorRows
import GoSem.ClaimSeven
namespace Go.Proofs.YtimhemcoflpmcaaGreatDoor
namespace Rows

/-- THE TIED CARD OF 'spoollaw13.DecPlays'. -/
def decPlaysCard : Claim7 := { stood := { row := decPlaysRow, standIns := [], harness := (true, "2ba09c33692b95024a9c496c8285a87748acc62c45372c1e3c7a74cce90fed3c"), looks := false }, kinds := [], alts := [], laidByText := true, laidKinds := [.data], laidTests := true, laidLooks := .later }
def DecPlaysCardSaid : Prop := Claim7.holds Tryz.pinned (.plain (OpenSpec.ofChange decPlaysSpec)) decPlaysCard

/-- THE SECOND FORM's CARD OF 'spoollaw13.DecPlays'. -/
def decPlaysUptoCard : Claim7 := { stood := { row := decPlaysUptoRow, standIns := [], harness := (true, "2ba09c33692b95024a9c496c8285a87748acc62c45372c1e3c7a74cce90fed3c"), looks := false }, kinds := [], alts := [], laidByText := true, laidKinds := [.data], laidTests := true, laidLooks := .later }
def DecPlaysUptoCardSaid : Prop := Claim7.holds Tryz.pinned (.plain (OpenSpec.upto decPlaysSpec)) decPlaysUptoCard
end Rows
end Go.Proofs.YtimhemcoflpmcaaGreatDoor
