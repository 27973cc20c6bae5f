/-
  NARROWER THAN 'FOR EVERY INPUT', by the rows' own cells (each row's printed sentence says how): RangBack: laid · RangBits: laid · RangPuts: laid · RangNumbers: laid · RangZeros: laid · RangGrows: laid.
  DERIVED. THE GIVEN ROWS OF THIS SEAT. 6 by the template 'for every input the law returns true; each argument reads behind the call as it read before'; 0 by the template 'total and deterministic' (their statements: YtnlfbndemajkaaaDoorTotals.lean).
  GIVEN WITH THE SEED: the statements are not yours to turn. If you find one false, say at which input.
  Laid BY PROGRAM, IN A SANDBOX (cutbox-rows.mjs): the forced cells as the released guide's own fill.sh prints them over the translation dbc3d922ad4df38b… (all of the seat's roots in one cut). By AI agents, Wed Nov 11 2026. No macro, syntax, notation, axiom, sorry.
-/
import Derived.Test.YtnlfbndemajkaaaDoorChecked
import GoSem.PinnedTables
import GoSem.Claim
import GoSem.ClaimJoined
import GoSem.ClaimMapViews
import Derived.JoinedTies
import Derived.KernelRfl
namespace Go.Proofs.YtnlfbndemajkaaaDoor
/- THE CELL 'sum', in the pinned program and in every row, IS THE sha256 OF THE DUMP (.gsa) THAT YtnlfbndemajkaaaDoorProg.lean LOADS. Nothing in Lean hashes anything: it is a label: what it is worth is what the hold of that sum in a sandbox is worth. -/
noncomputable def Tryd.pinned : Pinned := { name := "ytnlfbndemajkaaadoor", sum := "dbc3d922ad4df38b9115a5cfecb31809f354119b22c3ecbb5a8b67f5c32e9611", checked := Tryd.checked }
namespace Rows
def none {H : Type} : Left H := { results := [], args := [] }

/- WHAT THE LISTED PACKAGE-LEVEL VARIABLES READ AS WHEN THE CALL BEGINS. Each datum BY PROGRAM (the guide's laid-datum.mjs) off the statement by which the dump's own 'gosem.cut.vars' lays the variable. In a bare row this is a premise. The card (YtnlfbndemajkaaaDoorCards.lean) ties it to the program's text. -/
def laid_unicode_utf8_acceptRanges {H : Type} : DataW H := .agg [.agg [.lit (.int .u8 128), .lit (.int .u8 191)], .agg [.lit (.int .u8 160), .lit (.int .u8 191)], .agg [.lit (.int .u8 128), .lit (.int .u8 159)], .agg [.lit (.int .u8 144), .lit (.int .u8 191)], .agg [.lit (.int .u8 128), .lit (.int .u8 143)], .agg [.lit (.int .u8 0), .lit (.int .u8 0)], .agg [.lit (.int .u8 0), .lit (.int .u8 0)], .agg [.lit (.int .u8 0), .lit (.int .u8 0)], .agg [.lit (.int .u8 0), .lit (.int .u8 0)], .agg [.lit (.int .u8 0), .lit (.int .u8 0)], .agg [.lit (.int .u8 0), .lit (.int .u8 0)], .agg [.lit (.int .u8 0), .lit (.int .u8 0)], .agg [.lit (.int .u8 0), .lit (.int .u8 0)], .agg [.lit (.int .u8 0), .lit (.int .u8 0)], .agg [.lit (.int .u8 0), .lit (.int .u8 0)], .agg [.lit (.int .u8 0), .lit (.int .u8 0)]]
/-- One of Go's own tables, pinned by name: the form's constant. -/
def laid_unicode_utf8_first : DataW Unit := Go.Pinned.utf8First

/-- 'spoollaw07.RangBack': WHATEVER THE INPUT: true; the input reads as it did. -/
def rangBackSpec : ChangeSpec := { name := "rangBack", fn := fun _ => fun
  | [d] => { results := [.lit (.bool true)], args := [d] }
  | _ => none }
def rangBackRow : OpenClaim := { program := "ytnlfbndemajkaaadoor", sum := "dbc3d922ad4df38b9115a5cfecb31809f354119b22c3ecbb5a8b67f5c32e9611", func := "spool/spoollaw07.RangBack", spec := "rangBack", inPlace := ["internal/bytealg.IndexByteString", "internal/bytealg.IndexString", "internal/abi.NoEscape", "internal/bytealg.MakeNoZero"], unfollowed := true, recurses := true, named := ["unicode/utf8.first", "unicode/utf8.acceptRanges", "internal/bytealg.MaxLen"], apart := false, laid := [("unicode/utf8.acceptRanges", laid_unicode_utf8_acceptRanges), ("unicode/utf8.first", laid_unicode_utf8_first)] }
def RangBackSaid : Prop := rangBackRow.holds Tryd.pinned (OpenSpec.ofChange rangBackSpec)

/-- ITS FALSE NEIGHBOUR: 'it returns false'. Refute it at one input. -/
def rangBackWrong : ChangeSpec := { name := "rangBack", fn := fun _ => fun
  | [d] => { results := [.lit (.bool false)], args := [d] }
  | _ => none }
def RangBackWrongFalsely : Prop := rangBackRow.holds Tryd.pinned (OpenSpec.ofChange rangBackWrong)

/-- 'spoollaw07.RangBits': WHATEVER THE INPUT: true; the input reads as it did. -/
def rangBitsSpec : ChangeSpec := { name := "rangBits", fn := fun _ => fun
  | [d1, d2] => { results := [.lit (.bool true)], args := [d1, d2] }
  | _ => none }
def rangBitsRow : OpenClaim := { program := "ytnlfbndemajkaaadoor", sum := "dbc3d922ad4df38b9115a5cfecb31809f354119b22c3ecbb5a8b67f5c32e9611", func := "spool/spoollaw07.RangBits", spec := "rangBits", inPlace := ["internal/bytealg.IndexByteString", "internal/bytealg.IndexString", "internal/abi.NoEscape", "internal/bytealg.MakeNoZero"], unfollowed := true, recurses := true, named := ["unicode/utf8.first", "unicode/utf8.acceptRanges", "internal/bytealg.MaxLen"], apart := false, laid := [("unicode/utf8.acceptRanges", laid_unicode_utf8_acceptRanges), ("unicode/utf8.first", laid_unicode_utf8_first)] }
def RangBitsSaid : Prop := rangBitsRow.holds Tryd.pinned (OpenSpec.ofChange rangBitsSpec)

/-- ITS FALSE NEIGHBOUR: 'it returns false'. Refute it at one input. -/
def rangBitsWrong : ChangeSpec := { name := "rangBits", fn := fun _ => fun
  | [d1, d2] => { results := [.lit (.bool false)], args := [d1, d2] }
  | _ => none }
def RangBitsWrongFalsely : Prop := rangBitsRow.holds Tryd.pinned (OpenSpec.ofChange rangBitsWrong)

/-- 'spoollaw07.RangPuts': WHATEVER THE INPUT: true; the input reads as it did. -/
def rangPutsSpec : ChangeSpec := { name := "rangPuts", fn := fun _ => fun
  | [d1, d2] => { results := [.lit (.bool true)], args := [d1, d2] }
  | _ => none }
def rangPutsRow : OpenClaim := { program := "ytnlfbndemajkaaadoor", sum := "dbc3d922ad4df38b9115a5cfecb31809f354119b22c3ecbb5a8b67f5c32e9611", func := "spool/spoollaw07.RangPuts", spec := "rangPuts", inPlace := ["internal/bytealg.IndexByteString", "internal/bytealg.IndexString", "internal/abi.NoEscape", "internal/bytealg.MakeNoZero"], named := ["unicode/utf8.first", "unicode/utf8.acceptRanges", "internal/bytealg.MaxLen"], apart := false, laid := [("unicode/utf8.acceptRanges", laid_unicode_utf8_acceptRanges), ("unicode/utf8.first", laid_unicode_utf8_first)] }
def RangPutsSaid : Prop := rangPutsRow.holds Tryd.pinned (OpenSpec.ofChange rangPutsSpec)

/-- ITS FALSE NEIGHBOUR: 'it returns false'. Refute it at one input. -/
def rangPutsWrong : ChangeSpec := { name := "rangPuts", fn := fun _ => fun
  | [d1, d2] => { results := [.lit (.bool false)], args := [d1, d2] }
  | _ => none }
def RangPutsWrongFalsely : Prop := rangPutsRow.holds Tryd.pinned (OpenSpec.ofChange rangPutsWrong)

/-- 'spoollaw07.RangNumbers': WHATEVER THE INPUT: true; the input reads as it did. -/
def rangNumbersSpec : ChangeSpec := { name := "rangNumbers", fn := fun _ => fun
  | [d1, d2, d3] => { results := [.lit (.bool true)], args := [d1, d2, d3] }
  | _ => none }
def rangNumbersRow : OpenClaim := { program := "ytnlfbndemajkaaadoor", sum := "dbc3d922ad4df38b9115a5cfecb31809f354119b22c3ecbb5a8b67f5c32e9611", func := "spool/spoollaw07.RangNumbers", spec := "rangNumbers", inPlace := ["internal/bytealg.IndexByteString", "internal/bytealg.IndexString", "internal/abi.NoEscape", "internal/bytealg.MakeNoZero"], unfollowed := true, recurses := true, named := ["unicode/utf8.first", "unicode/utf8.acceptRanges", "internal/bytealg.MaxLen"], apart := false, laid := [("unicode/utf8.acceptRanges", laid_unicode_utf8_acceptRanges), ("unicode/utf8.first", laid_unicode_utf8_first)] }
def RangNumbersSaid : Prop := rangNumbersRow.holds Tryd.pinned (OpenSpec.ofChange rangNumbersSpec)

/-- ITS FALSE NEIGHBOUR: 'it returns false'. Refute it at one input. -/
def rangNumbersWrong : ChangeSpec := { name := "rangNumbers", fn := fun _ => fun
  | [d1, d2, d3] => { results := [.lit (.bool false)], args := [d1, d2, d3] }
  | _ => none }
def RangNumbersWrongFalsely : Prop := rangNumbersRow.holds Tryd.pinned (OpenSpec.ofChange rangNumbersWrong)

/-- 'spoollaw07.RangZeros': WHATEVER THE INPUT: true; the input reads as it did. -/
def rangZerosSpec : ChangeSpec := { name := "rangZeros", fn := fun _ => fun
  | [d1, d2, d3] => { results := [.lit (.bool true)], args := [d1, d2, d3] }
  | _ => none }
def rangZerosRow : OpenClaim := { program := "ytnlfbndemajkaaadoor", sum := "dbc3d922ad4df38b9115a5cfecb31809f354119b22c3ecbb5a8b67f5c32e9611", func := "spool/spoollaw07.RangZeros", spec := "rangZeros", inPlace := ["internal/bytealg.IndexByteString", "internal/bytealg.IndexString", "internal/abi.NoEscape", "internal/bytealg.MakeNoZero"], unfollowed := true, recurses := true, named := ["unicode/utf8.first", "unicode/utf8.acceptRanges", "internal/bytealg.MaxLen"], apart := false, laid := [("unicode/utf8.acceptRanges", laid_unicode_utf8_acceptRanges), ("unicode/utf8.first", laid_unicode_utf8_first)] }
def RangZerosSaid : Prop := rangZerosRow.holds Tryd.pinned (OpenSpec.ofChange rangZerosSpec)

/-- ITS FALSE NEIGHBOUR: 'it returns false'. Refute it at one input. -/
def rangZerosWrong : ChangeSpec := { name := "rangZeros", fn := fun _ => fun
  | [d1, d2, d3] => { results := [.lit (.bool false)], args := [d1, d2, d3] }
  | _ => none }
def RangZerosWrongFalsely : Prop := rangZerosRow.holds Tryd.pinned (OpenSpec.ofChange rangZerosWrong)

/-- 'spoollaw07.RangGrows': WHATEVER THE INPUT: true; the input reads as it did. -/
def rangGrowsSpec : ChangeSpec := { name := "rangGrows", fn := fun _ => fun
  | [d] => { results := [.lit (.bool true)], args := [d] }
  | _ => none }
def rangGrowsRow : OpenClaim := { program := "ytnlfbndemajkaaadoor", sum := "dbc3d922ad4df38b9115a5cfecb31809f354119b22c3ecbb5a8b67f5c32e9611", func := "spool/spoollaw07.RangGrows", spec := "rangGrows", inPlace := ["internal/bytealg.IndexByteString", "internal/bytealg.IndexString", "internal/abi.NoEscape", "internal/bytealg.MakeNoZero"], named := ["unicode/utf8.first", "unicode/utf8.acceptRanges", "internal/bytealg.MaxLen"], apart := false, laid := [("unicode/utf8.acceptRanges", laid_unicode_utf8_acceptRanges), ("unicode/utf8.first", laid_unicode_utf8_first)] }
def RangGrowsSaid : Prop := rangGrowsRow.holds Tryd.pinned (OpenSpec.ofChange rangGrowsSpec)

/-- ITS FALSE NEIGHBOUR: 'it returns false'. Refute it at one input. -/
def rangGrowsWrong : ChangeSpec := { name := "rangGrows", fn := fun _ => fun
  | [d] => { results := [.lit (.bool false)], args := [d] }
  | _ => none }
def RangGrowsWrongFalsely : Prop := rangGrowsRow.holds Tryd.pinned (OpenSpec.ofChange rangGrowsWrong)

/- THE SECOND FORM. 'bulk': how many values and letters a reading holds, each counted each time it is reached (what is shared counts as often as it is met; a slice's spare places count too). A statement '..UptoSaid' is the law's where the arguments, and the package variables that the reading takes, are together of bulk at most 1048576: NARROWER than '..Said'. Prove '..Said' where nothing that the law and all that it calls make is longer than what came in: it says more and counts as full. Else prove '..UptoSaid'. A law counts once. -/
mutual
def uptoBulk {H : Type} : DataW H → Nat
  | .lit (.string bytes) => bytes.length + 1
  | .lit _ => 1
  | .nil => 1
  | .ptr d => uptoBulk d + 1
  | .slice elems spare => uptoBulkAll elems + uptoBulkAll spare + 1
  | .agg parts => uptoBulkAll parts + 1
  | .iface _ d => uptoBulk d + 1
  | .map entries => uptoBulkEntries entries + 1
  | .held _ => 1
def uptoBulkAll {H : Type} : List (DataW H) → Nat
  | [] => 0
  | d :: r => uptoBulk d + uptoBulkAll r
def uptoBulkEntries {H : Type} : List (Lit × DataW H) → Nat
  | [] => 0
  | x :: r => uptoBulkEntry x + uptoBulkEntries r
def uptoBulkEntry {H : Type} : Lit × DataW H → Nat
  | (.string bytes, d) => bytes.length + uptoBulk d + 1
  | (_, d) => uptoBulk d + 1
 end
def uptoSmall : (H : Type) → List (DataW H) → Bool := fun _ ds => decide (uptoBulkAll ds ≤ 1048576)
def OpenSpec.upto (s : _root_.Go.ChangeSpec) : _root_.Go.OpenSpec := { _root_.Go.OpenSpec.ofChange s with cond := some uptoSmall }

/-- 'spoollaw07.RangBack', WHERE WHAT IT READS IS OF BULK AT MOST 1048576: true; the input reads as it did. -/
def rangBackUptoRow : OpenClaim := { program := "ytnlfbndemajkaaadoor", sum := "dbc3d922ad4df38b9115a5cfecb31809f354119b22c3ecbb5a8b67f5c32e9611", func := "spool/spoollaw07.RangBack", spec := "rangBack", inPlace := ["internal/bytealg.IndexByteString", "internal/bytealg.IndexString", "internal/abi.NoEscape", "internal/bytealg.MakeNoZero"], unfollowed := true, recurses := true, named := ["unicode/utf8.first", "unicode/utf8.acceptRanges", "internal/bytealg.MaxLen"], apart := false, laid := [("unicode/utf8.acceptRanges", laid_unicode_utf8_acceptRanges), ("unicode/utf8.first", laid_unicode_utf8_first)], narrowed := true }
def RangBackUptoSaid : Prop := rangBackUptoRow.holds Tryd.pinned (OpenSpec.upto rangBackSpec)

/-- 'spoollaw07.RangBits', WHERE WHAT IT READS IS OF BULK AT MOST 1048576: true; the input reads as it did. -/
def rangBitsUptoRow : OpenClaim := { program := "ytnlfbndemajkaaadoor", sum := "dbc3d922ad4df38b9115a5cfecb31809f354119b22c3ecbb5a8b67f5c32e9611", func := "spool/spoollaw07.RangBits", spec := "rangBits", inPlace := ["internal/bytealg.IndexByteString", "internal/bytealg.IndexString", "internal/abi.NoEscape", "internal/bytealg.MakeNoZero"], unfollowed := true, recurses := true, named := ["unicode/utf8.first", "unicode/utf8.acceptRanges", "internal/bytealg.MaxLen"], apart := false, laid := [("unicode/utf8.acceptRanges", laid_unicode_utf8_acceptRanges), ("unicode/utf8.first", laid_unicode_utf8_first)], narrowed := true }
def RangBitsUptoSaid : Prop := rangBitsUptoRow.holds Tryd.pinned (OpenSpec.upto rangBitsSpec)

/-- 'spoollaw07.RangPuts', WHERE WHAT IT READS IS OF BULK AT MOST 1048576: true; the input reads as it did. -/
def rangPutsUptoRow : OpenClaim := { program := "ytnlfbndemajkaaadoor", sum := "dbc3d922ad4df38b9115a5cfecb31809f354119b22c3ecbb5a8b67f5c32e9611", func := "spool/spoollaw07.RangPuts", spec := "rangPuts", inPlace := ["internal/bytealg.IndexByteString", "internal/bytealg.IndexString", "internal/abi.NoEscape", "internal/bytealg.MakeNoZero"], named := ["unicode/utf8.first", "unicode/utf8.acceptRanges", "internal/bytealg.MaxLen"], apart := false, laid := [("unicode/utf8.acceptRanges", laid_unicode_utf8_acceptRanges), ("unicode/utf8.first", laid_unicode_utf8_first)], narrowed := true }
def RangPutsUptoSaid : Prop := rangPutsUptoRow.holds Tryd.pinned (OpenSpec.upto rangPutsSpec)

/-- 'spoollaw07.RangNumbers', WHERE WHAT IT READS IS OF BULK AT MOST 1048576: true; the input reads as it did. -/
def rangNumbersUptoRow : OpenClaim := { program := "ytnlfbndemajkaaadoor", sum := "dbc3d922ad4df38b9115a5cfecb31809f354119b22c3ecbb5a8b67f5c32e9611", func := "spool/spoollaw07.RangNumbers", spec := "rangNumbers", inPlace := ["internal/bytealg.IndexByteString", "internal/bytealg.IndexString", "internal/abi.NoEscape", "internal/bytealg.MakeNoZero"], unfollowed := true, recurses := true, named := ["unicode/utf8.first", "unicode/utf8.acceptRanges", "internal/bytealg.MaxLen"], apart := false, laid := [("unicode/utf8.acceptRanges", laid_unicode_utf8_acceptRanges), ("unicode/utf8.first", laid_unicode_utf8_first)], narrowed := true }
def RangNumbersUptoSaid : Prop := rangNumbersUptoRow.holds Tryd.pinned (OpenSpec.upto rangNumbersSpec)

/-- 'spoollaw07.RangZeros', WHERE WHAT IT READS IS OF BULK AT MOST 1048576: true; the input reads as it did. -/
def rangZerosUptoRow : OpenClaim := { program := "ytnlfbndemajkaaadoor", sum := "dbc3d922ad4df38b9115a5cfecb31809f354119b22c3ecbb5a8b67f5c32e9611", func := "spool/spoollaw07.RangZeros", spec := "rangZeros", inPlace := ["internal/bytealg.IndexByteString", "internal/bytealg.IndexString", "internal/abi.NoEscape", "internal/bytealg.MakeNoZero"], unfollowed := true, recurses := true, named := ["unicode/utf8.first", "unicode/utf8.acceptRanges", "internal/bytealg.MaxLen"], apart := false, laid := [("unicode/utf8.acceptRanges", laid_unicode_utf8_acceptRanges), ("unicode/utf8.first", laid_unicode_utf8_first)], narrowed := true }
def RangZerosUptoSaid : Prop := rangZerosUptoRow.holds Tryd.pinned (OpenSpec.upto rangZerosSpec)

/-- 'spoollaw07.RangGrows', WHERE WHAT IT READS IS OF BULK AT MOST 1048576: true; the input reads as it did. -/
def rangGrowsUptoRow : OpenClaim := { program := "ytnlfbndemajkaaadoor", sum := "dbc3d922ad4df38b9115a5cfecb31809f354119b22c3ecbb5a8b67f5c32e9611", func := "spool/spoollaw07.RangGrows", spec := "rangGrows", inPlace := ["internal/bytealg.IndexByteString", "internal/bytealg.IndexString", "internal/abi.NoEscape", "internal/bytealg.MakeNoZero"], named := ["unicode/utf8.first", "unicode/utf8.acceptRanges", "internal/bytealg.MaxLen"], apart := false, laid := [("unicode/utf8.acceptRanges", laid_unicode_utf8_acceptRanges), ("unicode/utf8.first", laid_unicode_utf8_first)], narrowed := true }
def RangGrowsUptoSaid : Prop := rangGrowsUptoRow.holds Tryd.pinned (OpenSpec.upto rangGrowsSpec)

end Rows
end Go.Proofs.YtnlfbndemajkaaaDoor
