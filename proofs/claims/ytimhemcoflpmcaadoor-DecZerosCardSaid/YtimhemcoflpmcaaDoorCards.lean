/-
  DERIVED. GIVEN WITH THE SEED: THE CARDS: each row of YtimhemcoflpmcaaDoorRows.lean that lists a variable, with what it lists TIED to the program's text (the seventh form; the later family's looks); each row that meets fmt, with fmt's text TOLD by the authors' own Lean function (tested against real Go, not proved from fmt's source: count such statements apart). THE CARD IS WHAT COUNTS. Prove the row's statement (the work); the ties are given (YtimhemcoflpmcaaDoorTie.lean); close each card by the builder's one call (the guide's Derived/Test/ToyasCard.lean, 'card_holds'). Laid BY PROGRAM, IN A SANDBOX (cutbox-door.mjs). By AI agents, Wed Nov 11 2026. No macro, syntax, notation, axiom, sorry.
-/
import Derived.Test.YtimhemcoflpmcaaDoorRows
import GoSem.ClaimSeven
namespace Go.Proofs.YtimhemcoflpmcaaDoor
namespace Rows

/-- THE TIED CARD OF 'spoollaw13.DecTotal'. -/
def decTotalCard : Claim7 := { stood := { row := decTotalRow, standIns := [], harness := (true, "449433ace6a376dc57a145eba02416e7adc4aea5942457cb4eed73e5bdb65266"), looks := false }, kinds := [], alts := [], laidByText := true, laidKinds := [.data], laidTests := true, laidLooks := .later }
def DecTotalCardSaid : Prop := Claim7.holds Tryd.pinned (.plain (OpenSpec.ofChange decTotalSpec)) decTotalCard

/-- THE TIED CARD OF 'spoollaw13.DecZeros'. -/
def decZerosCard : Claim7 := { stood := { row := decZerosRow, standIns := [], harness := (true, "449433ace6a376dc57a145eba02416e7adc4aea5942457cb4eed73e5bdb65266"), looks := false }, kinds := [], alts := [], laidByText := true, laidKinds := [.data], laidTests := true, laidLooks := .later }
def DecZerosCardSaid : Prop := Claim7.holds Tryd.pinned (.plain (OpenSpec.ofChange decZerosSpec)) decZerosCard

/-- THE SECOND FORM's CARD OF 'spoollaw13.DecTotal'. -/
def decTotalUptoCard : Claim7 := { stood := { row := decTotalUptoRow, standIns := [], harness := (true, "449433ace6a376dc57a145eba02416e7adc4aea5942457cb4eed73e5bdb65266"), looks := false }, kinds := [], alts := [], laidByText := true, laidKinds := [.data], laidTests := true, laidLooks := .later }
def DecTotalUptoCardSaid : Prop := Claim7.holds Tryd.pinned (.plain (OpenSpec.upto decTotalSpec)) decTotalUptoCard

/-- THE SECOND FORM's CARD OF 'spoollaw13.DecZeros'. -/
def decZerosUptoCard : Claim7 := { stood := { row := decZerosUptoRow, standIns := [], harness := (true, "449433ace6a376dc57a145eba02416e7adc4aea5942457cb4eed73e5bdb65266"), looks := false }, kinds := [], alts := [], laidByText := true, laidKinds := [.data], laidTests := true, laidLooks := .later }
def DecZerosUptoCardSaid : Prop := Claim7.holds Tryd.pinned (.plain (OpenSpec.upto decZerosSpec)) decZerosUptoCard
end Rows
end Go.Proofs.YtimhemcoflpmcaaDoor
