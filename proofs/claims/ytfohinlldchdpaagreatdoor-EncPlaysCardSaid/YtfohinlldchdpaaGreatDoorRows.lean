/-
  NARROWER THAN 'FOR EVERY INPUT', by the rows' own cells (each row's printed sentence says how): EncSizes: laid · EncDecodes: laid · EncSilence: laid · EncPlays: laid · EncParts: laid · EncLevels: laid · WholeWay: laid.
  DERIVED. THE GIVEN ROWS OF THIS SEAT. 7 by the template 'for every input the law returns true; each argument reads behind the call as it read before'; 0 by the template 'total and deterministic' (their statements: YtfohinlldchdpaaGreatDoorTotals.lean).
  GIVEN WITH THE SEED: the statements are not yours to turn. If you find one false, say at which input.
  Laid BY PROGRAM, IN A SANDBOX (cutbox-rows.mjs): the forced cells as the released guide's own fill.sh prints them over the translation c664d8af1bb8fdae… (all of the seat's roots in one cut). By AI agents, Wed Nov 11 2026. No macro, syntax, notation, axiom, sorry.
-/
import Derived.Test.YtfohinlldchdpaaGreatDoorChecked
import GoSem.PinnedTables
import GoSem.Claim
import GoSem.ClaimJoined
import GoSem.ClaimMapViews
import Derived.JoinedTies
import Derived.KernelRfl
namespace Go.Proofs.YtfohinlldchdpaaGreatDoor
/- THE CELL 'sum', in the pinned program and in every row, IS THE sha256 OF THE DUMP (.gsa) THAT YtfohinlldchdpaaGreatDoorProg.lean LOADS. Nothing in Lean hashes anything: it is a label: what it is worth is what the hold of that sum in a sandbox is worth. -/
noncomputable def Tryz.pinned : Pinned := { name := "ytfohinlldchdpaagreatdoor", sum := "c664d8af1bb8fdaeeb5e1919ff4aedcb90f3829e1185fb0784be90a1a56e862e", checked := Tryz.checked }
namespace Rows
def none {H : Type} : Left H := { results := [], args := [] }

/- WHAT THE LISTED PACKAGE-LEVEL VARIABLES READ AS WHEN THE CALL BEGINS. Each datum BY PROGRAM (the guide's laid-datum.mjs) off the statement by which the dump's own 'gosem.cut.vars' lays the variable. In a bare row this is a premise. The card (YtfohinlldchdpaaGreatDoorCards.lean) ties it to the program's text. -/
def laid_spool_level_firsts {H : Type} : DataW H := .agg [.lit (.int .i64 0), .lit (.int .i64 2), .lit (.int .i64 4), .lit (.int .i64 8), .lit (.int .i64 16)]
def laid_unicode_utf8_acceptRanges {H : Type} : DataW H := .agg [.agg [.lit (.int .u8 128), .lit (.int .u8 191)], .agg [.lit (.int .u8 160), .lit (.int .u8 191)], .agg [.lit (.int .u8 128), .lit (.int .u8 159)], .agg [.lit (.int .u8 144), .lit (.int .u8 191)], .agg [.lit (.int .u8 128), .lit (.int .u8 143)], .agg [.lit (.int .u8 0), .lit (.int .u8 0)], .agg [.lit (.int .u8 0), .lit (.int .u8 0)], .agg [.lit (.int .u8 0), .lit (.int .u8 0)], .agg [.lit (.int .u8 0), .lit (.int .u8 0)], .agg [.lit (.int .u8 0), .lit (.int .u8 0)], .agg [.lit (.int .u8 0), .lit (.int .u8 0)], .agg [.lit (.int .u8 0), .lit (.int .u8 0)], .agg [.lit (.int .u8 0), .lit (.int .u8 0)], .agg [.lit (.int .u8 0), .lit (.int .u8 0)], .agg [.lit (.int .u8 0), .lit (.int .u8 0)], .agg [.lit (.int .u8 0), .lit (.int .u8 0)]]
/-- One of Go's own tables, pinned by name: the form's constant. -/
def laid_unicode_utf8_first : DataW Unit := Go.Pinned.utf8First

/-- 'spoollaw15.EncSizes': WHATEVER THE INPUT: true; the input reads as it did. -/
def encSizesSpec : ChangeSpec := { name := "encSizes", fn := fun _ => fun
  | [d1, d2, d3] => { results := [.lit (.bool true)], args := [d1, d2, d3] }
  | _ => none }
def encSizesRow : OpenClaim := { program := "ytfohinlldchdpaagreatdoor", sum := "c664d8af1bb8fdaeeb5e1919ff4aedcb90f3829e1185fb0784be90a1a56e862e", func := "spool/spoollaw15.EncSizes", spec := "encSizes", inPlace := ["internal/bytealg.IndexByteString", "internal/bytealg.IndexString", "internal/abi.NoEscape", "internal/bytealg.MakeNoZero"], unfollowed := true, recurses := true, named := ["spool/level.firsts", "unicode/utf8.first", "unicode/utf8.acceptRanges", "internal/bytealg.MaxLen"], plainKeys := false, apart := false, laid := [("spool/level.firsts", laid_spool_level_firsts), ("unicode/utf8.acceptRanges", laid_unicode_utf8_acceptRanges), ("unicode/utf8.first", laid_unicode_utf8_first)] }
def EncSizesSaid : Prop := encSizesRow.holds Tryz.pinned (OpenSpec.ofChange encSizesSpec)

/-- ITS FALSE NEIGHBOUR: 'it returns false'. Refute it at one input. -/
def encSizesWrong : ChangeSpec := { name := "encSizes", fn := fun _ => fun
  | [d1, d2, d3] => { results := [.lit (.bool false)], args := [d1, d2, d3] }
  | _ => none }
def EncSizesWrongFalsely : Prop := encSizesRow.holds Tryz.pinned (OpenSpec.ofChange encSizesWrong)

/-- 'spoollaw15.EncDecodes': WHATEVER THE INPUT: true; the input reads as it did. -/
def encDecodesSpec : ChangeSpec := { name := "encDecodes", fn := fun _ => fun
  | [d1, d2] => { results := [.lit (.bool true)], args := [d1, d2] }
  | _ => none }
def encDecodesRow : OpenClaim := { program := "ytfohinlldchdpaagreatdoor", sum := "c664d8af1bb8fdaeeb5e1919ff4aedcb90f3829e1185fb0784be90a1a56e862e", func := "spool/spoollaw15.EncDecodes", spec := "encDecodes", inPlace := ["internal/bytealg.IndexByteString", "internal/bytealg.IndexString", "internal/abi.NoEscape", "internal/bytealg.MakeNoZero"], unfollowed := true, recurses := true, named := ["spool/level.firsts", "unicode/utf8.first", "unicode/utf8.acceptRanges", "internal/bytealg.MaxLen"], plainKeys := false, apart := false, laid := [("spool/level.firsts", laid_spool_level_firsts), ("unicode/utf8.acceptRanges", laid_unicode_utf8_acceptRanges), ("unicode/utf8.first", laid_unicode_utf8_first)] }
def EncDecodesSaid : Prop := encDecodesRow.holds Tryz.pinned (OpenSpec.ofChange encDecodesSpec)

/-- ITS FALSE NEIGHBOUR: 'it returns false'. Refute it at one input. -/
def encDecodesWrong : ChangeSpec := { name := "encDecodes", fn := fun _ => fun
  | [d1, d2] => { results := [.lit (.bool false)], args := [d1, d2] }
  | _ => none }
def EncDecodesWrongFalsely : Prop := encDecodesRow.holds Tryz.pinned (OpenSpec.ofChange encDecodesWrong)

/-- 'spoollaw15.EncSilence': WHATEVER THE INPUT: true; the input reads as it did. -/
def encSilenceSpec : ChangeSpec := { name := "encSilence", fn := fun _ => fun
  | [d1, d2, d3] => { results := [.lit (.bool true)], args := [d1, d2, d3] }
  | _ => none }
def encSilenceRow : OpenClaim := { program := "ytfohinlldchdpaagreatdoor", sum := "c664d8af1bb8fdaeeb5e1919ff4aedcb90f3829e1185fb0784be90a1a56e862e", func := "spool/spoollaw15.EncSilence", spec := "encSilence", inPlace := ["internal/bytealg.IndexByteString", "internal/bytealg.IndexString", "internal/abi.NoEscape", "internal/bytealg.MakeNoZero"], unfollowed := true, recurses := true, named := ["spool/level.firsts", "unicode/utf8.first", "unicode/utf8.acceptRanges", "internal/bytealg.MaxLen"], plainKeys := false, apart := false, laid := [("spool/level.firsts", laid_spool_level_firsts), ("unicode/utf8.acceptRanges", laid_unicode_utf8_acceptRanges), ("unicode/utf8.first", laid_unicode_utf8_first)] }
def EncSilenceSaid : Prop := encSilenceRow.holds Tryz.pinned (OpenSpec.ofChange encSilenceSpec)

/-- ITS FALSE NEIGHBOUR: 'it returns false'. Refute it at one input. -/
def encSilenceWrong : ChangeSpec := { name := "encSilence", fn := fun _ => fun
  | [d1, d2, d3] => { results := [.lit (.bool false)], args := [d1, d2, d3] }
  | _ => none }
def EncSilenceWrongFalsely : Prop := encSilenceRow.holds Tryz.pinned (OpenSpec.ofChange encSilenceWrong)

/-- 'spoollaw15.EncPlays': WHATEVER THE INPUT: true; the input reads as it did. -/
def encPlaysSpec : ChangeSpec := { name := "encPlays", fn := fun _ => fun
  | [d1, d2, d3] => { results := [.lit (.bool true)], args := [d1, d2, d3] }
  | _ => none }
def encPlaysRow : OpenClaim := { program := "ytfohinlldchdpaagreatdoor", sum := "c664d8af1bb8fdaeeb5e1919ff4aedcb90f3829e1185fb0784be90a1a56e862e", func := "spool/spoollaw15.EncPlays", spec := "encPlays", inPlace := ["internal/bytealg.IndexByteString", "internal/bytealg.IndexString", "internal/abi.NoEscape", "internal/bytealg.MakeNoZero"], unfollowed := true, recurses := true, named := ["spool/level.firsts", "unicode/utf8.first", "unicode/utf8.acceptRanges", "internal/bytealg.MaxLen"], plainKeys := false, apart := false, laid := [("spool/level.firsts", laid_spool_level_firsts), ("unicode/utf8.acceptRanges", laid_unicode_utf8_acceptRanges), ("unicode/utf8.first", laid_unicode_utf8_first)] }
def EncPlaysSaid : Prop := encPlaysRow.holds Tryz.pinned (OpenSpec.ofChange encPlaysSpec)

/-- ITS FALSE NEIGHBOUR: 'it returns false'. Refute it at one input. -/
def encPlaysWrong : ChangeSpec := { name := "encPlays", fn := fun _ => fun
  | [d1, d2, d3] => { results := [.lit (.bool false)], args := [d1, d2, d3] }
  | _ => none }
def EncPlaysWrongFalsely : Prop := encPlaysRow.holds Tryz.pinned (OpenSpec.ofChange encPlaysWrong)

/-- 'spoollaw15.EncParts': WHATEVER THE INPUT: true; the input reads as it did. -/
def encPartsSpec : ChangeSpec := { name := "encParts", fn := fun _ => fun
  | [d1, d2, d3] => { results := [.lit (.bool true)], args := [d1, d2, d3] }
  | _ => none }
def encPartsRow : OpenClaim := { program := "ytfohinlldchdpaagreatdoor", sum := "c664d8af1bb8fdaeeb5e1919ff4aedcb90f3829e1185fb0784be90a1a56e862e", func := "spool/spoollaw15.EncParts", spec := "encParts", inPlace := ["internal/bytealg.IndexByteString", "internal/bytealg.IndexString", "internal/abi.NoEscape", "internal/bytealg.MakeNoZero"], unfollowed := true, recurses := true, named := ["spool/level.firsts", "unicode/utf8.first", "unicode/utf8.acceptRanges", "internal/bytealg.MaxLen"], plainKeys := false, apart := false, laid := [("spool/level.firsts", laid_spool_level_firsts), ("unicode/utf8.acceptRanges", laid_unicode_utf8_acceptRanges), ("unicode/utf8.first", laid_unicode_utf8_first)] }
def EncPartsSaid : Prop := encPartsRow.holds Tryz.pinned (OpenSpec.ofChange encPartsSpec)

/-- ITS FALSE NEIGHBOUR: 'it returns false'. Refute it at one input. -/
def encPartsWrong : ChangeSpec := { name := "encParts", fn := fun _ => fun
  | [d1, d2, d3] => { results := [.lit (.bool false)], args := [d1, d2, d3] }
  | _ => none }
def EncPartsWrongFalsely : Prop := encPartsRow.holds Tryz.pinned (OpenSpec.ofChange encPartsWrong)

/-- 'spoollaw15.EncLevels': WHATEVER THE INPUT: true; the input reads as it did. -/
def encLevelsSpec : ChangeSpec := { name := "encLevels", fn := fun _ => fun
  | [d1, d2, d3] => { results := [.lit (.bool true)], args := [d1, d2, d3] }
  | _ => none }
def encLevelsRow : OpenClaim := { program := "ytfohinlldchdpaagreatdoor", sum := "c664d8af1bb8fdaeeb5e1919ff4aedcb90f3829e1185fb0784be90a1a56e862e", func := "spool/spoollaw15.EncLevels", spec := "encLevels", inPlace := ["internal/bytealg.IndexByteString", "internal/bytealg.IndexString", "internal/abi.NoEscape", "internal/bytealg.MakeNoZero"], unfollowed := true, recurses := true, named := ["spool/level.firsts", "unicode/utf8.first", "unicode/utf8.acceptRanges", "internal/bytealg.MaxLen"], plainKeys := false, apart := false, laid := [("spool/level.firsts", laid_spool_level_firsts), ("unicode/utf8.acceptRanges", laid_unicode_utf8_acceptRanges), ("unicode/utf8.first", laid_unicode_utf8_first)] }
def EncLevelsSaid : Prop := encLevelsRow.holds Tryz.pinned (OpenSpec.ofChange encLevelsSpec)

/-- ITS FALSE NEIGHBOUR: 'it returns false'. Refute it at one input. -/
def encLevelsWrong : ChangeSpec := { name := "encLevels", fn := fun _ => fun
  | [d1, d2, d3] => { results := [.lit (.bool false)], args := [d1, d2, d3] }
  | _ => none }
def EncLevelsWrongFalsely : Prop := encLevelsRow.holds Tryz.pinned (OpenSpec.ofChange encLevelsWrong)

/-- 'spooltop.WholeWay': WHATEVER THE INPUT: true; the input reads as it did. -/
def wholeWaySpec : ChangeSpec := { name := "wholeWay", fn := fun _ => fun
  | [d1, d2, d3] => { results := [.lit (.bool true)], args := [d1, d2, d3] }
  | _ => none }
def wholeWayRow : OpenClaim := { program := "ytfohinlldchdpaagreatdoor", sum := "c664d8af1bb8fdaeeb5e1919ff4aedcb90f3829e1185fb0784be90a1a56e862e", func := "spool/spooltop.WholeWay", spec := "wholeWay", inPlace := ["internal/bytealg.IndexByteString", "internal/bytealg.IndexString", "internal/abi.NoEscape", "internal/bytealg.MakeNoZero"], unfollowed := true, recurses := true, named := ["spool/level.firsts", "unicode/utf8.first", "unicode/utf8.acceptRanges", "internal/bytealg.MaxLen"], plainKeys := false, apart := false, laid := [("spool/level.firsts", laid_spool_level_firsts), ("unicode/utf8.acceptRanges", laid_unicode_utf8_acceptRanges), ("unicode/utf8.first", laid_unicode_utf8_first)] }
def WholeWaySaid : Prop := wholeWayRow.holds Tryz.pinned (OpenSpec.ofChange wholeWaySpec)

/-- ITS FALSE NEIGHBOUR: 'it returns false'. Refute it at one input. -/
def wholeWayWrong : ChangeSpec := { name := "wholeWay", fn := fun _ => fun
  | [d1, d2, d3] => { results := [.lit (.bool false)], args := [d1, d2, d3] }
  | _ => none }
def WholeWayWrongFalsely : Prop := wholeWayRow.holds Tryz.pinned (OpenSpec.ofChange wholeWayWrong)

/- THE SECOND FORM. 'bulk': how many values and letters a reading holds, each counted each time it is reached (what is shared counts as often as it is met; a slice's spare places count too). A statement '..UptoSaid' is the law's where the arguments, and the package variables that the reading takes, are together of bulk at most 1048576: NARROWER than '..Said'. Prove '..Said' where nothing that the law and all that it calls make is longer than what came in: it says more and counts as full. Else prove '..UptoSaid'. A law counts once. -/
mutual
def uptoBulk {H : Type} : DataW H → Nat
  | .lit (.string bytes) => bytes.length + 1
  | .lit _ => 1
  | .nil => 1
  | .ptr d => uptoBulk d + 1
  | .slice elems spare => uptoBulkAll elems + uptoBulkAll spare + 1
  | .agg parts => uptoBulkAll parts + 1
  | .iface _ d => uptoBulk d + 1
  | .map entries => uptoBulkEntries entries + 1
  | .held _ => 1
def uptoBulkAll {H : Type} : List (DataW H) → Nat
  | [] => 0
  | d :: r => uptoBulk d + uptoBulkAll r
def uptoBulkEntries {H : Type} : List (Lit × DataW H) → Nat
  | [] => 0
  | x :: r => uptoBulkEntry x + uptoBulkEntries r
def uptoBulkEntry {H : Type} : Lit × DataW H → Nat
  | (.string bytes, d) => bytes.length + uptoBulk d + 1
  | (_, d) => uptoBulk d + 1
 end
def uptoSmall : (H : Type) → List (DataW H) → Bool := fun _ ds => decide (uptoBulkAll ds ≤ 1048576)
def OpenSpec.upto (s : _root_.Go.ChangeSpec) : _root_.Go.OpenSpec := { _root_.Go.OpenSpec.ofChange s with cond := some uptoSmall }

/-- 'spoollaw15.EncSizes', WHERE WHAT IT READS IS OF BULK AT MOST 1048576: true; the input reads as it did. -/
def encSizesUptoRow : OpenClaim := { program := "ytfohinlldchdpaagreatdoor", sum := "c664d8af1bb8fdaeeb5e1919ff4aedcb90f3829e1185fb0784be90a1a56e862e", func := "spool/spoollaw15.EncSizes", spec := "encSizes", inPlace := ["internal/bytealg.IndexByteString", "internal/bytealg.IndexString", "internal/abi.NoEscape", "internal/bytealg.MakeNoZero"], unfollowed := true, recurses := true, named := ["spool/level.firsts", "unicode/utf8.first", "unicode/utf8.acceptRanges", "internal/bytealg.MaxLen"], plainKeys := false, apart := false, laid := [("spool/level.firsts", laid_spool_level_firsts), ("unicode/utf8.acceptRanges", laid_unicode_utf8_acceptRanges), ("unicode/utf8.first", laid_unicode_utf8_first)], narrowed := true }
def EncSizesUptoSaid : Prop := encSizesUptoRow.holds Tryz.pinned (OpenSpec.upto encSizesSpec)

/-- 'spoollaw15.EncDecodes', WHERE WHAT IT READS IS OF BULK AT MOST 1048576: true; the input reads as it did. -/
def encDecodesUptoRow : OpenClaim := { program := "ytfohinlldchdpaagreatdoor", sum := "c664d8af1bb8fdaeeb5e1919ff4aedcb90f3829e1185fb0784be90a1a56e862e", func := "spool/spoollaw15.EncDecodes", spec := "encDecodes", inPlace := ["internal/bytealg.IndexByteString", "internal/bytealg.IndexString", "internal/abi.NoEscape", "internal/bytealg.MakeNoZero"], unfollowed := true, recurses := true, named := ["spool/level.firsts", "unicode/utf8.first", "unicode/utf8.acceptRanges", "internal/bytealg.MaxLen"], plainKeys := false, apart := false, laid := [("spool/level.firsts", laid_spool_level_firsts), ("unicode/utf8.acceptRanges", laid_unicode_utf8_acceptRanges), ("unicode/utf8.first", laid_unicode_utf8_first)], narrowed := true }
def EncDecodesUptoSaid : Prop := encDecodesUptoRow.holds Tryz.pinned (OpenSpec.upto encDecodesSpec)

/-- 'spoollaw15.EncSilence', WHERE WHAT IT READS IS OF BULK AT MOST 1048576: true; the input reads as it did. -/
def encSilenceUptoRow : OpenClaim := { program := "ytfohinlldchdpaagreatdoor", sum := "c664d8af1bb8fdaeeb5e1919ff4aedcb90f3829e1185fb0784be90a1a56e862e", func := "spool/spoollaw15.EncSilence", spec := "encSilence", inPlace := ["internal/bytealg.IndexByteString", "internal/bytealg.IndexString", "internal/abi.NoEscape", "internal/bytealg.MakeNoZero"], unfollowed := true, recurses := true, named := ["spool/level.firsts", "unicode/utf8.first", "unicode/utf8.acceptRanges", "internal/bytealg.MaxLen"], plainKeys := false, apart := false, laid := [("spool/level.firsts", laid_spool_level_firsts), ("unicode/utf8.acceptRanges", laid_unicode_utf8_acceptRanges), ("unicode/utf8.first", laid_unicode_utf8_first)], narrowed := true }
def EncSilenceUptoSaid : Prop := encSilenceUptoRow.holds Tryz.pinned (OpenSpec.upto encSilenceSpec)

/-- 'spoollaw15.EncPlays', WHERE WHAT IT READS IS OF BULK AT MOST 1048576: true; the input reads as it did. -/
def encPlaysUptoRow : OpenClaim := { program := "ytfohinlldchdpaagreatdoor", sum := "c664d8af1bb8fdaeeb5e1919ff4aedcb90f3829e1185fb0784be90a1a56e862e", func := "spool/spoollaw15.EncPlays", spec := "encPlays", inPlace := ["internal/bytealg.IndexByteString", "internal/bytealg.IndexString", "internal/abi.NoEscape", "internal/bytealg.MakeNoZero"], unfollowed := true, recurses := true, named := ["spool/level.firsts", "unicode/utf8.first", "unicode/utf8.acceptRanges", "internal/bytealg.MaxLen"], plainKeys := false, apart := false, laid := [("spool/level.firsts", laid_spool_level_firsts), ("unicode/utf8.acceptRanges", laid_unicode_utf8_acceptRanges), ("unicode/utf8.first", laid_unicode_utf8_first)], narrowed := true }
def EncPlaysUptoSaid : Prop := encPlaysUptoRow.holds Tryz.pinned (OpenSpec.upto encPlaysSpec)

/-- 'spoollaw15.EncParts', WHERE WHAT IT READS IS OF BULK AT MOST 1048576: true; the input reads as it did. -/
def encPartsUptoRow : OpenClaim := { program := "ytfohinlldchdpaagreatdoor", sum := "c664d8af1bb8fdaeeb5e1919ff4aedcb90f3829e1185fb0784be90a1a56e862e", func := "spool/spoollaw15.EncParts", spec := "encParts", inPlace := ["internal/bytealg.IndexByteString", "internal/bytealg.IndexString", "internal/abi.NoEscape", "internal/bytealg.MakeNoZero"], unfollowed := true, recurses := true, named := ["spool/level.firsts", "unicode/utf8.first", "unicode/utf8.acceptRanges", "internal/bytealg.MaxLen"], plainKeys := false, apart := false, laid := [("spool/level.firsts", laid_spool_level_firsts), ("unicode/utf8.acceptRanges", laid_unicode_utf8_acceptRanges), ("unicode/utf8.first", laid_unicode_utf8_first)], narrowed := true }
def EncPartsUptoSaid : Prop := encPartsUptoRow.holds Tryz.pinned (OpenSpec.upto encPartsSpec)

/-- 'spoollaw15.EncLevels', WHERE WHAT IT READS IS OF BULK AT MOST 1048576: true; the input reads as it did. -/
def encLevelsUptoRow : OpenClaim := { program := "ytfohinlldchdpaagreatdoor", sum := "c664d8af1bb8fdaeeb5e1919ff4aedcb90f3829e1185fb0784be90a1a56e862e", func := "spool/spoollaw15.EncLevels", spec := "encLevels", inPlace := ["internal/bytealg.IndexByteString", "internal/bytealg.IndexString", "internal/abi.NoEscape", "internal/bytealg.MakeNoZero"], unfollowed := true, recurses := true, named := ["spool/level.firsts", "unicode/utf8.first", "unicode/utf8.acceptRanges", "internal/bytealg.MaxLen"], plainKeys := false, apart := false, laid := [("spool/level.firsts", laid_spool_level_firsts), ("unicode/utf8.acceptRanges", laid_unicode_utf8_acceptRanges), ("unicode/utf8.first", laid_unicode_utf8_first)], narrowed := true }
def EncLevelsUptoSaid : Prop := encLevelsUptoRow.holds Tryz.pinned (OpenSpec.upto encLevelsSpec)

/-- 'spooltop.WholeWay', WHERE WHAT IT READS IS OF BULK AT MOST 1048576: true; the input reads as it did. -/
def wholeWayUptoRow : OpenClaim := { program := "ytfohinlldchdpaagreatdoor", sum := "c664d8af1bb8fdaeeb5e1919ff4aedcb90f3829e1185fb0784be90a1a56e862e", func := "spool/spooltop.WholeWay", spec := "wholeWay", inPlace := ["internal/bytealg.IndexByteString", "internal/bytealg.IndexString", "internal/abi.NoEscape", "internal/bytealg.MakeNoZero"], unfollowed := true, recurses := true, named := ["spool/level.firsts", "unicode/utf8.first", "unicode/utf8.acceptRanges", "internal/bytealg.MaxLen"], plainKeys := false, apart := false, laid := [("spool/level.firsts", laid_spool_level_firsts), ("unicode/utf8.acceptRanges", laid_unicode_utf8_acceptRanges), ("unicode/utf8.first", laid_unicode_utf8_first)], narrowed := true }
def WholeWayUptoSaid : Prop := wholeWayUptoRow.holds Tryz.pinned (OpenSpec.upto wholeWaySpec)

end Rows
end Go.Proofs.YtfohinlldchdpaaGreatDoor
