/-
  NARROWER THAN 'FOR EVERY INPUT', by the rows' own cells (each row's printed sentence says how): LevelPuts: laid · LevelLoud: laid · LevelFills: laid · LevelPlays: laid · LevelParts: laid · LevelSigns: laid.
  DERIVED. THE GIVEN ROWS OF THIS SEAT. 6 by the template 'for every input the law returns true; each argument reads behind the call as it read before'; 0 by the template 'total and deterministic' (their statements: YtlnmpgbknalagaaDoorTotals.lean).
  GIVEN WITH THE SEED: the statements are not yours to turn. If you find one false, say at which input.
  Laid BY PROGRAM, IN A SANDBOX (cutbox-rows.mjs): the forced cells as the released guide's own fill.sh prints them over the translation 849ae2d86888b94c… (all of the seat's roots in one cut). By AI agents, Wed Nov 11 2026. No macro, syntax, notation, axiom, sorry.
-/
import Derived.Test.YtlnmpgbknalagaaDoorChecked
import GoSem.Claim
import GoSem.ClaimJoined
import GoSem.ClaimMapViews
import Derived.JoinedTies
import Derived.KernelRfl
namespace Go.Proofs.YtlnmpgbknalagaaDoor
/- THE CELL 'sum', in the pinned program and in every row, IS THE sha256 OF THE DUMP (.gsa) THAT YtlnmpgbknalagaaDoorProg.lean LOADS. Nothing in Lean hashes anything: it is a label: what it is worth is what the hold of that sum in a sandbox is worth. -/
noncomputable def Tryd.pinned : Pinned := { name := "ytlnmpgbknalagaadoor", sum := "849ae2d86888b94cd6f201d77ab106dd8b1966ce22588a1a2e293da0d07998b1", checked := Tryd.checked }
namespace Rows
def none {H : Type} : Left H := { results := [], args := [] }

/- WHAT THE LISTED PACKAGE-LEVEL VARIABLES READ AS WHEN THE CALL BEGINS. Each datum BY PROGRAM (the guide's laid-datum.mjs) off the statement by which the dump's own 'gosem.cut.vars' lays the variable. In a bare row this is a premise. The card (YtlnmpgbknalagaaDoorCards.lean) ties it to the program's text. -/
def laid_spool_level_firsts {H : Type} : DataW H := .agg [.lit (.int .i64 0), .lit (.int .i64 2), .lit (.int .i64 4), .lit (.int .i64 8), .lit (.int .i64 16)]

/-- 'spoollaw06.LevelPuts': WHATEVER THE INPUT: true; the input reads as it did. -/
def levelPutsSpec : ChangeSpec := { name := "levelPuts", fn := fun _ => fun
  | [d1, d2, d3] => { results := [.lit (.bool true)], args := [d1, d2, d3] }
  | _ => none }
def levelPutsRow : OpenClaim := { program := "ytlnmpgbknalagaadoor", sum := "849ae2d86888b94cd6f201d77ab106dd8b1966ce22588a1a2e293da0d07998b1", func := "spool/spoollaw06.LevelPuts", spec := "levelPuts", named := ["spool/level.firsts"], apart := false, laid := [("spool/level.firsts", laid_spool_level_firsts)] }
def LevelPutsSaid : Prop := levelPutsRow.holds Tryd.pinned (OpenSpec.ofChange levelPutsSpec)

/-- ITS FALSE NEIGHBOUR: 'it returns false'. Refute it at one input. -/
def levelPutsWrong : ChangeSpec := { name := "levelPuts", fn := fun _ => fun
  | [d1, d2, d3] => { results := [.lit (.bool false)], args := [d1, d2, d3] }
  | _ => none }
def LevelPutsWrongFalsely : Prop := levelPutsRow.holds Tryd.pinned (OpenSpec.ofChange levelPutsWrong)

/-- 'spoollaw06.LevelLoud': WHATEVER THE INPUT: true; the input reads as it did. -/
def levelLoudSpec : ChangeSpec := { name := "levelLoud", fn := fun _ => fun
  | [d] => { results := [.lit (.bool true)], args := [d] }
  | _ => none }
def levelLoudRow : OpenClaim := { program := "ytlnmpgbknalagaadoor", sum := "849ae2d86888b94cd6f201d77ab106dd8b1966ce22588a1a2e293da0d07998b1", func := "spool/spoollaw06.LevelLoud", spec := "levelLoud", named := ["spool/level.firsts"], apart := false, laid := [("spool/level.firsts", laid_spool_level_firsts)] }
def LevelLoudSaid : Prop := levelLoudRow.holds Tryd.pinned (OpenSpec.ofChange levelLoudSpec)

/-- ITS FALSE NEIGHBOUR: 'it returns false'. Refute it at one input. -/
def levelLoudWrong : ChangeSpec := { name := "levelLoud", fn := fun _ => fun
  | [d] => { results := [.lit (.bool false)], args := [d] }
  | _ => none }
def LevelLoudWrongFalsely : Prop := levelLoudRow.holds Tryd.pinned (OpenSpec.ofChange levelLoudWrong)

/-- 'spoollaw06.LevelFills': WHATEVER THE INPUT: true; the input reads as it did. -/
def levelFillsSpec : ChangeSpec := { name := "levelFills", fn := fun _ => fun
  | [d1, d2] => { results := [.lit (.bool true)], args := [d1, d2] }
  | _ => none }
def levelFillsRow : OpenClaim := { program := "ytlnmpgbknalagaadoor", sum := "849ae2d86888b94cd6f201d77ab106dd8b1966ce22588a1a2e293da0d07998b1", func := "spool/spoollaw06.LevelFills", spec := "levelFills", named := ["spool/level.firsts"], apart := false, laid := [("spool/level.firsts", laid_spool_level_firsts)] }
def LevelFillsSaid : Prop := levelFillsRow.holds Tryd.pinned (OpenSpec.ofChange levelFillsSpec)

/-- ITS FALSE NEIGHBOUR: 'it returns false'. Refute it at one input. -/
def levelFillsWrong : ChangeSpec := { name := "levelFills", fn := fun _ => fun
  | [d1, d2] => { results := [.lit (.bool false)], args := [d1, d2] }
  | _ => none }
def LevelFillsWrongFalsely : Prop := levelFillsRow.holds Tryd.pinned (OpenSpec.ofChange levelFillsWrong)

/-- 'spoollaw06.LevelPlays': WHATEVER THE INPUT: true; the input reads as it did. -/
def levelPlaysSpec : ChangeSpec := { name := "levelPlays", fn := fun _ => fun
  | [d1, d2, d3] => { results := [.lit (.bool true)], args := [d1, d2, d3] }
  | _ => none }
def levelPlaysRow : OpenClaim := { program := "ytlnmpgbknalagaadoor", sum := "849ae2d86888b94cd6f201d77ab106dd8b1966ce22588a1a2e293da0d07998b1", func := "spool/spoollaw06.LevelPlays", spec := "levelPlays", named := ["spool/level.firsts"], apart := false, laid := [("spool/level.firsts", laid_spool_level_firsts)] }
def LevelPlaysSaid : Prop := levelPlaysRow.holds Tryd.pinned (OpenSpec.ofChange levelPlaysSpec)

/-- ITS FALSE NEIGHBOUR: 'it returns false'. Refute it at one input. -/
def levelPlaysWrong : ChangeSpec := { name := "levelPlays", fn := fun _ => fun
  | [d1, d2, d3] => { results := [.lit (.bool false)], args := [d1, d2, d3] }
  | _ => none }
def LevelPlaysWrongFalsely : Prop := levelPlaysRow.holds Tryd.pinned (OpenSpec.ofChange levelPlaysWrong)

/-- 'spoollaw06.LevelParts': WHATEVER THE INPUT: true; the input reads as it did. -/
def levelPartsSpec : ChangeSpec := { name := "levelParts", fn := fun _ => fun
  | [d] => { results := [.lit (.bool true)], args := [d] }
  | _ => none }
def levelPartsRow : OpenClaim := { program := "ytlnmpgbknalagaadoor", sum := "849ae2d86888b94cd6f201d77ab106dd8b1966ce22588a1a2e293da0d07998b1", func := "spool/spoollaw06.LevelParts", spec := "levelParts", named := ["spool/level.firsts"], apart := false, laid := [("spool/level.firsts", laid_spool_level_firsts)] }
def LevelPartsSaid : Prop := levelPartsRow.holds Tryd.pinned (OpenSpec.ofChange levelPartsSpec)

/-- ITS FALSE NEIGHBOUR: 'it returns false'. Refute it at one input. -/
def levelPartsWrong : ChangeSpec := { name := "levelParts", fn := fun _ => fun
  | [d] => { results := [.lit (.bool false)], args := [d] }
  | _ => none }
def LevelPartsWrongFalsely : Prop := levelPartsRow.holds Tryd.pinned (OpenSpec.ofChange levelPartsWrong)

/-- 'spoollaw06.LevelSigns': WHATEVER THE INPUT: true; the input reads as it did. -/
def levelSignsSpec : ChangeSpec := { name := "levelSigns", fn := fun _ => fun
  | [d1, d2] => { results := [.lit (.bool true)], args := [d1, d2] }
  | _ => none }
def levelSignsRow : OpenClaim := { program := "ytlnmpgbknalagaadoor", sum := "849ae2d86888b94cd6f201d77ab106dd8b1966ce22588a1a2e293da0d07998b1", func := "spool/spoollaw06.LevelSigns", spec := "levelSigns", named := ["spool/level.firsts"], apart := false, laid := [("spool/level.firsts", laid_spool_level_firsts)] }
def LevelSignsSaid : Prop := levelSignsRow.holds Tryd.pinned (OpenSpec.ofChange levelSignsSpec)

/-- ITS FALSE NEIGHBOUR: 'it returns false'. Refute it at one input. -/
def levelSignsWrong : ChangeSpec := { name := "levelSigns", fn := fun _ => fun
  | [d1, d2] => { results := [.lit (.bool false)], args := [d1, d2] }
  | _ => none }
def LevelSignsWrongFalsely : Prop := levelSignsRow.holds Tryd.pinned (OpenSpec.ofChange levelSignsWrong)

/- THE SECOND FORM. 'bulk': how many values and letters a reading holds, each counted each time it is reached (what is shared counts as often as it is met; a slice's spare places count too). A statement '..UptoSaid' is the law's where the arguments, and the package variables that the reading takes, are together of bulk at most 1048576: NARROWER than '..Said'. Prove '..Said' where nothing that the law and all that it calls make is longer than what came in: it says more and counts as full. Else prove '..UptoSaid'. A law counts once. -/
mutual
def uptoBulk {H : Type} : DataW H → Nat
  | .lit (.string bytes) => bytes.length + 1
  | .lit _ => 1
  | .nil => 1
  | .ptr d => uptoBulk d + 1
  | .slice elems spare => uptoBulkAll elems + uptoBulkAll spare + 1
  | .agg parts => uptoBulkAll parts + 1
  | .iface _ d => uptoBulk d + 1
  | .map entries => uptoBulkEntries entries + 1
  | .held _ => 1
def uptoBulkAll {H : Type} : List (DataW H) → Nat
  | [] => 0
  | d :: r => uptoBulk d + uptoBulkAll r
def uptoBulkEntries {H : Type} : List (Lit × DataW H) → Nat
  | [] => 0
  | x :: r => uptoBulkEntry x + uptoBulkEntries r
def uptoBulkEntry {H : Type} : Lit × DataW H → Nat
  | (.string bytes, d) => bytes.length + uptoBulk d + 1
  | (_, d) => uptoBulk d + 1
 end
def uptoSmall : (H : Type) → List (DataW H) → Bool := fun _ ds => decide (uptoBulkAll ds ≤ 1048576)
def OpenSpec.upto (s : _root_.Go.ChangeSpec) : _root_.Go.OpenSpec := { _root_.Go.OpenSpec.ofChange s with cond := some uptoSmall }

/-- 'spoollaw06.LevelPuts', WHERE WHAT IT READS IS OF BULK AT MOST 1048576: true; the input reads as it did. -/
def levelPutsUptoRow : OpenClaim := { program := "ytlnmpgbknalagaadoor", sum := "849ae2d86888b94cd6f201d77ab106dd8b1966ce22588a1a2e293da0d07998b1", func := "spool/spoollaw06.LevelPuts", spec := "levelPuts", named := ["spool/level.firsts"], apart := false, laid := [("spool/level.firsts", laid_spool_level_firsts)], narrowed := true }
def LevelPutsUptoSaid : Prop := levelPutsUptoRow.holds Tryd.pinned (OpenSpec.upto levelPutsSpec)

/-- 'spoollaw06.LevelLoud', WHERE WHAT IT READS IS OF BULK AT MOST 1048576: true; the input reads as it did. -/
def levelLoudUptoRow : OpenClaim := { program := "ytlnmpgbknalagaadoor", sum := "849ae2d86888b94cd6f201d77ab106dd8b1966ce22588a1a2e293da0d07998b1", func := "spool/spoollaw06.LevelLoud", spec := "levelLoud", named := ["spool/level.firsts"], apart := false, laid := [("spool/level.firsts", laid_spool_level_firsts)], narrowed := true }
def LevelLoudUptoSaid : Prop := levelLoudUptoRow.holds Tryd.pinned (OpenSpec.upto levelLoudSpec)

/-- 'spoollaw06.LevelFills', WHERE WHAT IT READS IS OF BULK AT MOST 1048576: true; the input reads as it did. -/
def levelFillsUptoRow : OpenClaim := { program := "ytlnmpgbknalagaadoor", sum := "849ae2d86888b94cd6f201d77ab106dd8b1966ce22588a1a2e293da0d07998b1", func := "spool/spoollaw06.LevelFills", spec := "levelFills", named := ["spool/level.firsts"], apart := false, laid := [("spool/level.firsts", laid_spool_level_firsts)], narrowed := true }
def LevelFillsUptoSaid : Prop := levelFillsUptoRow.holds Tryd.pinned (OpenSpec.upto levelFillsSpec)

/-- 'spoollaw06.LevelPlays', WHERE WHAT IT READS IS OF BULK AT MOST 1048576: true; the input reads as it did. -/
def levelPlaysUptoRow : OpenClaim := { program := "ytlnmpgbknalagaadoor", sum := "849ae2d86888b94cd6f201d77ab106dd8b1966ce22588a1a2e293da0d07998b1", func := "spool/spoollaw06.LevelPlays", spec := "levelPlays", named := ["spool/level.firsts"], apart := false, laid := [("spool/level.firsts", laid_spool_level_firsts)], narrowed := true }
def LevelPlaysUptoSaid : Prop := levelPlaysUptoRow.holds Tryd.pinned (OpenSpec.upto levelPlaysSpec)

/-- 'spoollaw06.LevelParts', WHERE WHAT IT READS IS OF BULK AT MOST 1048576: true; the input reads as it did. -/
def levelPartsUptoRow : OpenClaim := { program := "ytlnmpgbknalagaadoor", sum := "849ae2d86888b94cd6f201d77ab106dd8b1966ce22588a1a2e293da0d07998b1", func := "spool/spoollaw06.LevelParts", spec := "levelParts", named := ["spool/level.firsts"], apart := false, laid := [("spool/level.firsts", laid_spool_level_firsts)], narrowed := true }
def LevelPartsUptoSaid : Prop := levelPartsUptoRow.holds Tryd.pinned (OpenSpec.upto levelPartsSpec)

/-- 'spoollaw06.LevelSigns', WHERE WHAT IT READS IS OF BULK AT MOST 1048576: true; the input reads as it did. -/
def levelSignsUptoRow : OpenClaim := { program := "ytlnmpgbknalagaadoor", sum := "849ae2d86888b94cd6f201d77ab106dd8b1966ce22588a1a2e293da0d07998b1", func := "spool/spoollaw06.LevelSigns", spec := "levelSigns", named := ["spool/level.firsts"], apart := false, laid := [("spool/level.firsts", laid_spool_level_firsts)], narrowed := true }
def LevelSignsUptoSaid : Prop := levelSignsUptoRow.holds Tryd.pinned (OpenSpec.upto levelSignsSpec)

end Rows
end Go.Proofs.YtlnmpgbknalagaaDoor
