/-
  DERIVED. GIVEN WITH THE SEED: THE CARDS: each row of YtidbagkkkpfkbaaDoorRows.lean that lists a variable, with what it lists TIED to the program's text (the seventh form; the later family's looks); each row that meets fmt, with fmt's text TOLD by the authors' own Lean function (tested against real Go, not proved from fmt's source: count such statements apart). THE CARD IS WHAT COUNTS. Prove the row's statement (the work); the ties are given (YtidbagkkkpfkbaaDoorTie.lean); close each card by the builder's one call (the guide's Derived/Test/ToyasCard.lean, 'card_holds'). Laid BY PROGRAM, IN A SANDBOX (cutbox-door.mjs). By AI agents, Wed Nov 11 2026. No macro, syntax, notation, axiom, sorry.
-/
import Derived.Test.YtidbagkkkpfkbaaDoorRows
import GoSem.ClaimSeven
namespace Go.Proofs.YtidbagkkkpfkbaaDoor
namespace Rows

/-- THE TIED CARD OF 'spoollaw08.LaplBack'. -/
def laplBackCard : Claim7 := { stood := { row := laplBackRow, standIns := [], harness := (true, "e5648557d10f11021d8a705a16d1cd8179a50db4e5e8427244033cdb4dcc37a8"), looks := false }, kinds := [], alts := [], laidByText := true, laidKinds := [.data, .pinned], laidTests := true, laidLooks := .later }
def LaplBackCardSaid : Prop := Claim7.holds Tryd.pinned (.plain (OpenSpec.ofChange laplBackSpec)) laplBackCard

/-- THE SECOND FORM's CARD OF 'spoollaw08.LaplBack'. -/
def laplBackUptoCard : Claim7 := { stood := { row := laplBackUptoRow, standIns := [], harness := (true, "e5648557d10f11021d8a705a16d1cd8179a50db4e5e8427244033cdb4dcc37a8"), looks := false }, kinds := [], alts := [], laidByText := true, laidKinds := [.data, .pinned], laidTests := true, laidLooks := .later }
def LaplBackUptoCardSaid : Prop := Claim7.holds Tryd.pinned (.plain (OpenSpec.upto laplBackSpec)) laplBackUptoCard
end Rows
end Go.Proofs.YtidbagkkkpfkbaaDoor
