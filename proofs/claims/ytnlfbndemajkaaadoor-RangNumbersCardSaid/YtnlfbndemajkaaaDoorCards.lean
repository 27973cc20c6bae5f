/-
  DERIVED. GIVEN WITH THE SEED: THE CARDS: each row of YtnlfbndemajkaaaDoorRows.lean that lists a variable, with what it lists TIED to the program's text (the seventh form; the later family's looks); each row that meets fmt, with fmt's text TOLD by the authors' own Lean function (tested against real Go, not proved from fmt's source: count such statements apart). THE CARD IS WHAT COUNTS. Prove the row's statement (the work); the ties are given (YtnlfbndemajkaaaDoorTie.lean); close each card by the builder's one call (the guide's Derived/Test/ToyasCard.lean, 'card_holds'). Laid BY PROGRAM, IN A SANDBOX (cutbox-door.mjs). By AI agents, Wed Nov 11 2026. No macro, syntax, notation, axiom, sorry.
-/
import Derived.Test.YtnlfbndemajkaaaDoorRows
import GoSem.ClaimSeven
namespace Go.Proofs.YtnlfbndemajkaaaDoor
namespace Rows

/-- THE TIED CARD OF 'spoollaw07.RangBack'. -/
def rangBackCard : Claim7 := { stood := { row := rangBackRow, standIns := [], harness := (true, "80a4f7334ad07405b2b9dc631272607ab6d13127726ced2db0a72652d2460830"), looks := false }, kinds := [], alts := [], laidByText := true, laidKinds := [.data, .pinned], laidTests := true, laidLooks := .later }
def RangBackCardSaid : Prop := Claim7.holds Tryd.pinned (.plain (OpenSpec.ofChange rangBackSpec)) rangBackCard

/-- THE TIED CARD OF 'spoollaw07.RangBits'. -/
def rangBitsCard : Claim7 := { stood := { row := rangBitsRow, standIns := [], harness := (true, "80a4f7334ad07405b2b9dc631272607ab6d13127726ced2db0a72652d2460830"), looks := false }, kinds := [], alts := [], laidByText := true, laidKinds := [.data, .pinned], laidTests := true, laidLooks := .later }
def RangBitsCardSaid : Prop := Claim7.holds Tryd.pinned (.plain (OpenSpec.ofChange rangBitsSpec)) rangBitsCard

/-- THE TIED CARD OF 'spoollaw07.RangPuts'. -/
def rangPutsCard : Claim7 := { stood := { row := rangPutsRow, standIns := [], harness := (true, "80a4f7334ad07405b2b9dc631272607ab6d13127726ced2db0a72652d2460830"), looks := false }, kinds := [], alts := [], laidByText := true, laidKinds := [.data, .pinned], laidTests := true, laidLooks := .later }
def RangPutsCardSaid : Prop := Claim7.holds Tryd.pinned (.plain (OpenSpec.ofChange rangPutsSpec)) rangPutsCard

/-- THE TIED CARD OF 'spoollaw07.RangNumbers'. -/
def rangNumbersCard : Claim7 := { stood := { row := rangNumbersRow, standIns := [], harness := (true, "80a4f7334ad07405b2b9dc631272607ab6d13127726ced2db0a72652d2460830"), looks := false }, kinds := [], alts := [], laidByText := true, laidKinds := [.data, .pinned], laidTests := true, laidLooks := .later }
def RangNumbersCardSaid : Prop := Claim7.holds Tryd.pinned (.plain (OpenSpec.ofChange rangNumbersSpec)) rangNumbersCard

/-- THE TIED CARD OF 'spoollaw07.RangZeros'. -/
def rangZerosCard : Claim7 := { stood := { row := rangZerosRow, standIns := [], harness := (true, "80a4f7334ad07405b2b9dc631272607ab6d13127726ced2db0a72652d2460830"), looks := false }, kinds := [], alts := [], laidByText := true, laidKinds := [.data, .pinned], laidTests := true, laidLooks := .later }
def RangZerosCardSaid : Prop := Claim7.holds Tryd.pinned (.plain (OpenSpec.ofChange rangZerosSpec)) rangZerosCard

/-- THE TIED CARD OF 'spoollaw07.RangGrows'. -/
def rangGrowsCard : Claim7 := { stood := { row := rangGrowsRow, standIns := [], harness := (true, "80a4f7334ad07405b2b9dc631272607ab6d13127726ced2db0a72652d2460830"), looks := false }, kinds := [], alts := [], laidByText := true, laidKinds := [.data, .pinned], laidTests := true, laidLooks := .later }
def RangGrowsCardSaid : Prop := Claim7.holds Tryd.pinned (.plain (OpenSpec.ofChange rangGrowsSpec)) rangGrowsCard

/-- THE SECOND FORM's CARD OF 'spoollaw07.RangBack'. -/
def rangBackUptoCard : Claim7 := { stood := { row := rangBackUptoRow, standIns := [], harness := (true, "80a4f7334ad07405b2b9dc631272607ab6d13127726ced2db0a72652d2460830"), looks := false }, kinds := [], alts := [], laidByText := true, laidKinds := [.data, .pinned], laidTests := true, laidLooks := .later }
def RangBackUptoCardSaid : Prop := Claim7.holds Tryd.pinned (.plain (OpenSpec.upto rangBackSpec)) rangBackUptoCard

/-- THE SECOND FORM's CARD OF 'spoollaw07.RangBits'. -/
def rangBitsUptoCard : Claim7 := { stood := { row := rangBitsUptoRow, standIns := [], harness := (true, "80a4f7334ad07405b2b9dc631272607ab6d13127726ced2db0a72652d2460830"), looks := false }, kinds := [], alts := [], laidByText := true, laidKinds := [.data, .pinned], laidTests := true, laidLooks := .later }
def RangBitsUptoCardSaid : Prop := Claim7.holds Tryd.pinned (.plain (OpenSpec.upto rangBitsSpec)) rangBitsUptoCard

/-- THE SECOND FORM's CARD OF 'spoollaw07.RangPuts'. -/
def rangPutsUptoCard : Claim7 := { stood := { row := rangPutsUptoRow, standIns := [], harness := (true, "80a4f7334ad07405b2b9dc631272607ab6d13127726ced2db0a72652d2460830"), looks := false }, kinds := [], alts := [], laidByText := true, laidKinds := [.data, .pinned], laidTests := true, laidLooks := .later }
def RangPutsUptoCardSaid : Prop := Claim7.holds Tryd.pinned (.plain (OpenSpec.upto rangPutsSpec)) rangPutsUptoCard

/-- THE SECOND FORM's CARD OF 'spoollaw07.RangNumbers'. -/
def rangNumbersUptoCard : Claim7 := { stood := { row := rangNumbersUptoRow, standIns := [], harness := (true, "80a4f7334ad07405b2b9dc631272607ab6d13127726ced2db0a72652d2460830"), looks := false }, kinds := [], alts := [], laidByText := true, laidKinds := [.data, .pinned], laidTests := true, laidLooks := .later }
def RangNumbersUptoCardSaid : Prop := Claim7.holds Tryd.pinned (.plain (OpenSpec.upto rangNumbersSpec)) rangNumbersUptoCard

/-- THE SECOND FORM's CARD OF 'spoollaw07.RangZeros'. -/
def rangZerosUptoCard : Claim7 := { stood := { row := rangZerosUptoRow, standIns := [], harness := (true, "80a4f7334ad07405b2b9dc631272607ab6d13127726ced2db0a72652d2460830"), looks := false }, kinds := [], alts := [], laidByText := true, laidKinds := [.data, .pinned], laidTests := true, laidLooks := .later }
def RangZerosUptoCardSaid : Prop := Claim7.holds Tryd.pinned (.plain (OpenSpec.upto rangZerosSpec)) rangZerosUptoCard

/-- THE SECOND FORM's CARD OF 'spoollaw07.RangGrows'. -/
def rangGrowsUptoCard : Claim7 := { stood := { row := rangGrowsUptoRow, standIns := [], harness := (true, "80a4f7334ad07405b2b9dc631272607ab6d13127726ced2db0a72652d2460830"), looks := false }, kinds := [], alts := [], laidByText := true, laidKinds := [.data, .pinned], laidTests := true, laidLooks := .later }
def RangGrowsUptoCardSaid : Prop := Claim7.holds Tryd.pinned (.plain (OpenSpec.upto rangGrowsSpec)) rangGrowsUptoCard
end Rows
end Go.Proofs.YtnlfbndemajkaaaDoor
