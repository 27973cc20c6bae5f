/-
  DERIVED. GIVEN WITH THE SEED: THE CARDS: each row of YtfcaigggacgfkaaDoorRows.lean that lists a variable, with what it lists TIED to the program's text (the seventh form; the later family's looks); each row that meets fmt, with fmt's text TOLD by the authors' own Lean function (tested against real Go, not proved from fmt's source: count such statements apart). THE CARD IS WHAT COUNTS. Prove the row's statement (the work); the ties are given (YtfcaigggacgfkaaDoorTie.lean); close each card by the builder's one call (the guide's Derived/Test/ToyasCard.lean, 'card_holds'). Laid BY PROGRAM, IN A SANDBOX (cutbox-door.mjs). By AI agents, Wed Nov 11 2026. No macro, syntax, notation, axiom, sorry.
-/
import Derived.Test.YtfcaigggacgfkaaDoorRows
import GoSem.ClaimSeven
namespace Go.Proofs.YtfcaigggacgfkaaDoor
namespace Rows

/-- THE TIED CARD OF 'spoollaw11.SpareFits'. -/
def spareFitsCard : Claim7 := { stood := { row := spareFitsRow, standIns := [], harness := (true, "11ef1e2a493297f89cdb9d16b380f2b2e16dd62158e005097e46e4ef43ae6c4f"), looks := false }, kinds := [], alts := [], laidByText := true, laidKinds := [.data], laidTests := true, laidLooks := .later }
def SpareFitsCardSaid : Prop := Claim7.holds Tryd.pinned (.plain (OpenSpec.ofChange spareFitsSpec)) spareFitsCard

/-- THE TIED CARD OF 'spoollaw11.SpareSame'. -/
def spareSameCard : Claim7 := { stood := { row := spareSameRow, standIns := [], harness := (true, "11ef1e2a493297f89cdb9d16b380f2b2e16dd62158e005097e46e4ef43ae6c4f"), looks := false }, kinds := [], alts := [], laidByText := true, laidKinds := [.data], laidTests := true, laidLooks := .later }
def SpareSameCardSaid : Prop := Claim7.holds Tryd.pinned (.plain (OpenSpec.ofChange spareSameSpec)) spareSameCard

/-- THE TIED CARD OF 'spoollaw11.SparePlays'. -/
def sparePlaysCard : Claim7 := { stood := { row := sparePlaysRow, standIns := [], harness := (true, "11ef1e2a493297f89cdb9d16b380f2b2e16dd62158e005097e46e4ef43ae6c4f"), looks := false }, kinds := [], alts := [], laidByText := true, laidKinds := [.data], laidTests := true, laidLooks := .later }
def SparePlaysCardSaid : Prop := Claim7.holds Tryd.pinned (.plain (OpenSpec.ofChange sparePlaysSpec)) sparePlaysCard

/-- THE TIED CARD OF 'spoollaw11.SpareAlone'. -/
def spareAloneCard : Claim7 := { stood := { row := spareAloneRow, standIns := [], harness := (true, "11ef1e2a493297f89cdb9d16b380f2b2e16dd62158e005097e46e4ef43ae6c4f"), looks := false }, kinds := [], alts := [], laidByText := true, laidKinds := [.data], laidTests := true, laidLooks := .later }
def SpareAloneCardSaid : Prop := Claim7.holds Tryd.pinned (.plain (OpenSpec.ofChange spareAloneSpec)) spareAloneCard

/-- THE TIED CARD OF 'spoollaw11.SpareRooms'. -/
def spareRoomsCard : Claim7 := { stood := { row := spareRoomsRow, standIns := [], harness := (true, "11ef1e2a493297f89cdb9d16b380f2b2e16dd62158e005097e46e4ef43ae6c4f"), looks := false }, kinds := [], alts := [], laidByText := true, laidKinds := [.data], laidTests := true, laidLooks := .later }
def SpareRoomsCardSaid : Prop := Claim7.holds Tryd.pinned (.plain (OpenSpec.ofChange spareRoomsSpec)) spareRoomsCard

/-- THE SECOND FORM's CARD OF 'spoollaw11.SpareFits'. -/
def spareFitsUptoCard : Claim7 := { stood := { row := spareFitsUptoRow, standIns := [], harness := (true, "11ef1e2a493297f89cdb9d16b380f2b2e16dd62158e005097e46e4ef43ae6c4f"), looks := false }, kinds := [], alts := [], laidByText := true, laidKinds := [.data], laidTests := true, laidLooks := .later }
def SpareFitsUptoCardSaid : Prop := Claim7.holds Tryd.pinned (.plain (OpenSpec.upto spareFitsSpec)) spareFitsUptoCard

/-- THE SECOND FORM's CARD OF 'spoollaw11.SpareSame'. -/
def spareSameUptoCard : Claim7 := { stood := { row := spareSameUptoRow, standIns := [], harness := (true, "11ef1e2a493297f89cdb9d16b380f2b2e16dd62158e005097e46e4ef43ae6c4f"), looks := false }, kinds := [], alts := [], laidByText := true, laidKinds := [.data], laidTests := true, laidLooks := .later }
def SpareSameUptoCardSaid : Prop := Claim7.holds Tryd.pinned (.plain (OpenSpec.upto spareSameSpec)) spareSameUptoCard

/-- THE SECOND FORM's CARD OF 'spoollaw11.SparePlays'. -/
def sparePlaysUptoCard : Claim7 := { stood := { row := sparePlaysUptoRow, standIns := [], harness := (true, "11ef1e2a493297f89cdb9d16b380f2b2e16dd62158e005097e46e4ef43ae6c4f"), looks := false }, kinds := [], alts := [], laidByText := true, laidKinds := [.data], laidTests := true, laidLooks := .later }
def SparePlaysUptoCardSaid : Prop := Claim7.holds Tryd.pinned (.plain (OpenSpec.upto sparePlaysSpec)) sparePlaysUptoCard

/-- THE SECOND FORM's CARD OF 'spoollaw11.SpareAlone'. -/
def spareAloneUptoCard : Claim7 := { stood := { row := spareAloneUptoRow, standIns := [], harness := (true, "11ef1e2a493297f89cdb9d16b380f2b2e16dd62158e005097e46e4ef43ae6c4f"), looks := false }, kinds := [], alts := [], laidByText := true, laidKinds := [.data], laidTests := true, laidLooks := .later }
def SpareAloneUptoCardSaid : Prop := Claim7.holds Tryd.pinned (.plain (OpenSpec.upto spareAloneSpec)) spareAloneUptoCard

/-- THE SECOND FORM's CARD OF 'spoollaw11.SpareRooms'. -/
def spareRoomsUptoCard : Claim7 := { stood := { row := spareRoomsUptoRow, standIns := [], harness := (true, "11ef1e2a493297f89cdb9d16b380f2b2e16dd62158e005097e46e4ef43ae6c4f"), looks := false }, kinds := [], alts := [], laidByText := true, laidKinds := [.data], laidTests := true, laidLooks := .later }
def SpareRoomsUptoCardSaid : Prop := Claim7.holds Tryd.pinned (.plain (OpenSpec.upto spareRoomsSpec)) spareRoomsUptoCard
end Rows
end Go.Proofs.YtfcaigggacgfkaaDoor
