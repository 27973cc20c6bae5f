/-
  No cell of these rows narrows 'for every input' (looked for: loops, veiled, ifaces, maps, wideKeys, modest, calm, conditions, laid).
  DERIVED. THE GIVEN ROWS OF THIS SEAT. 6 by the template 'for every input the law returns true; each argument reads behind the call as it read before'; 0 by the template 'total and deterministic' (their statements: YtinbdkneakblfaaTotals.lean).
  GIVEN WITH THE SEED: the statements are not yours to turn. If you find one false, say at which input.
  Laid BY PROGRAM, IN A SANDBOX (cutbox-rows.mjs): the forced cells as the released guide's own fill.sh prints them over the translation 5993865ce36b8cc8… (all of the seat's roots in one cut). By AI agents, Wed Nov 11 2026. No macro, syntax, notation, axiom, sorry.
-/
import Derived.Test.YtinbdkneakblfaaChecked
import GoSem.Claim
import GoSem.ClaimJoined
import GoSem.ClaimMapViews
import Derived.JoinedTies
import Derived.KernelRfl
namespace Go.Proofs.Ytinbdkneakblfaa
/- THE CELL 'sum', in the pinned program and in every row, IS THE sha256 OF THE DUMP (.gsa) THAT YtinbdkneakblfaaProg.lean LOADS. Nothing in Lean hashes anything: it is a label: what it is worth is what the hold of that sum in a sandbox is worth. -/
noncomputable def Try.pinned : Pinned := { name := "ytinbdkneakblfaa", sum := "5993865ce36b8cc832b810409f827e308e783fd28462cbafda79ed8701fa8498", checked := Try.checked }
namespace Rows
def none {H : Type} : Left H := { results := [], args := [] }

/-- 'spoollaw12.StateBack': WHATEVER THE INPUT: true; the input reads as it did. -/
def stateBackSpec : ChangeSpec := { name := "stateBack", fn := fun _ => fun
  | [d] => { results := [.lit (.bool true)], args := [d] }
  | _ => none }
def stateBackRow : OpenClaim := { program := "ytinbdkneakblfaa", sum := "5993865ce36b8cc832b810409f827e308e783fd28462cbafda79ed8701fa8498", func := "spool/spoollaw12.StateBack", spec := "stateBack", unfollowed := true, recurses := true, apart := false }
def StateBackSaid : Prop := stateBackRow.holds Try.pinned (OpenSpec.ofChange stateBackSpec)

/-- ITS FALSE NEIGHBOUR: 'it returns false'. Refute it at one input. -/
def stateBackWrong : ChangeSpec := { name := "stateBack", fn := fun _ => fun
  | [d] => { results := [.lit (.bool false)], args := [d] }
  | _ => none }
def StateBackWrongFalsely : Prop := stateBackRow.holds Try.pinned (OpenSpec.ofChange stateBackWrong)

/-- 'spoollaw12.StateOnly': WHATEVER THE INPUT: true; the input reads as it did. -/
def stateOnlySpec : ChangeSpec := { name := "stateOnly", fn := fun _ => fun
  | [d] => { results := [.lit (.bool true)], args := [d] }
  | _ => none }
def stateOnlyRow : OpenClaim := { program := "ytinbdkneakblfaa", sum := "5993865ce36b8cc832b810409f827e308e783fd28462cbafda79ed8701fa8498", func := "spool/spoollaw12.StateOnly", spec := "stateOnly", unfollowed := true, recurses := true, apart := false }
def StateOnlySaid : Prop := stateOnlyRow.holds Try.pinned (OpenSpec.ofChange stateOnlySpec)

/-- ITS FALSE NEIGHBOUR: 'it returns false'. Refute it at one input. -/
def stateOnlyWrong : ChangeSpec := { name := "stateOnly", fn := fun _ => fun
  | [d] => { results := [.lit (.bool false)], args := [d] }
  | _ => none }
def StateOnlyWrongFalsely : Prop := stateOnlyRow.holds Try.pinned (OpenSpec.ofChange stateOnlyWrong)

/-- 'spoollaw12.StateNext': WHATEVER THE INPUT: true; the input reads as it did. -/
def stateNextSpec : ChangeSpec := { name := "stateNext", fn := fun _ => fun
  | [d1, d2, d3, d4] => { results := [.lit (.bool true)], args := [d1, d2, d3, d4] }
  | _ => none }
def stateNextRow : OpenClaim := { program := "ytinbdkneakblfaa", sum := "5993865ce36b8cc832b810409f827e308e783fd28462cbafda79ed8701fa8498", func := "spool/spoollaw12.StateNext", spec := "stateNext", unfollowed := true, recurses := true, apart := false }
def StateNextSaid : Prop := stateNextRow.holds Try.pinned (OpenSpec.ofChange stateNextSpec)

/-- ITS FALSE NEIGHBOUR: 'it returns false'. Refute it at one input. -/
def stateNextWrong : ChangeSpec := { name := "stateNext", fn := fun _ => fun
  | [d1, d2, d3, d4] => { results := [.lit (.bool false)], args := [d1, d2, d3, d4] }
  | _ => none }
def StateNextWrongFalsely : Prop := stateNextRow.holds Try.pinned (OpenSpec.ofChange stateNextWrong)

/-- 'spoollaw12.StatePlays': WHATEVER THE INPUT: true; the input reads as it did. -/
def statePlaysSpec : ChangeSpec := { name := "statePlays", fn := fun _ => fun
  | [d1, d2, d3, d4] => { results := [.lit (.bool true)], args := [d1, d2, d3, d4] }
  | _ => none }
def statePlaysRow : OpenClaim := { program := "ytinbdkneakblfaa", sum := "5993865ce36b8cc832b810409f827e308e783fd28462cbafda79ed8701fa8498", func := "spool/spoollaw12.StatePlays", spec := "statePlays", unfollowed := true, recurses := true, apart := false }
def StatePlaysSaid : Prop := statePlaysRow.holds Try.pinned (OpenSpec.ofChange statePlaysSpec)

/-- ITS FALSE NEIGHBOUR: 'it returns false'. Refute it at one input. -/
def statePlaysWrong : ChangeSpec := { name := "statePlays", fn := fun _ => fun
  | [d1, d2, d3, d4] => { results := [.lit (.bool false)], args := [d1, d2, d3, d4] }
  | _ => none }
def StatePlaysWrongFalsely : Prop := statePlaysRow.holds Try.pinned (OpenSpec.ofChange statePlaysWrong)

/-- 'spoollaw12.StateApart': WHATEVER THE INPUT: true; the input reads as it did. -/
def stateApartSpec : ChangeSpec := { name := "stateApart", fn := fun _ => fun
  | [d1, d2, d3] => { results := [.lit (.bool true)], args := [d1, d2, d3] }
  | _ => none }
def stateApartRow : OpenClaim := { program := "ytinbdkneakblfaa", sum := "5993865ce36b8cc832b810409f827e308e783fd28462cbafda79ed8701fa8498", func := "spool/spoollaw12.StateApart", spec := "stateApart", unfollowed := true, recurses := true, apart := false }
def StateApartSaid : Prop := stateApartRow.holds Try.pinned (OpenSpec.ofChange stateApartSpec)

/-- ITS FALSE NEIGHBOUR: 'it returns false'. Refute it at one input. -/
def stateApartWrong : ChangeSpec := { name := "stateApart", fn := fun _ => fun
  | [d1, d2, d3] => { results := [.lit (.bool false)], args := [d1, d2, d3] }
  | _ => none }
def StateApartWrongFalsely : Prop := stateApartRow.holds Try.pinned (OpenSpec.ofChange stateApartWrong)

/-- 'spoollaw12.StateQuiet': WHATEVER THE INPUT: true; the input reads as it did. -/
def stateQuietSpec : ChangeSpec := { name := "stateQuiet", fn := fun _ => fun
  | [d1, d2] => { results := [.lit (.bool true)], args := [d1, d2] }
  | _ => none }
def stateQuietRow : OpenClaim := { program := "ytinbdkneakblfaa", sum := "5993865ce36b8cc832b810409f827e308e783fd28462cbafda79ed8701fa8498", func := "spool/spoollaw12.StateQuiet", spec := "stateQuiet", unfollowed := true, recurses := true, apart := false }
def StateQuietSaid : Prop := stateQuietRow.holds Try.pinned (OpenSpec.ofChange stateQuietSpec)

/-- ITS FALSE NEIGHBOUR: 'it returns false'. Refute it at one input. -/
def stateQuietWrong : ChangeSpec := { name := "stateQuiet", fn := fun _ => fun
  | [d1, d2] => { results := [.lit (.bool false)], args := [d1, d2] }
  | _ => none }
def StateQuietWrongFalsely : Prop := stateQuietRow.holds Try.pinned (OpenSpec.ofChange stateQuietWrong)

/- THE SECOND FORM. 'bulk': how many values and letters a reading holds, each counted each time it is reached (what is shared counts as often as it is met; a slice's spare places count too). A statement '..UptoSaid' is the law's where the arguments, and the package variables that the reading takes, are together of bulk at most 1048576: NARROWER than '..Said'. Prove '..Said' where nothing that the law and all that it calls make is longer than what came in: it says more and counts as full. Else prove '..UptoSaid'. A law counts once. -/
mutual
def uptoBulk {H : Type} : DataW H → Nat
  | .lit (.string bytes) => bytes.length + 1
  | .lit _ => 1
  | .nil => 1
  | .ptr d => uptoBulk d + 1
  | .slice elems spare => uptoBulkAll elems + uptoBulkAll spare + 1
  | .agg parts => uptoBulkAll parts + 1
  | .iface _ d => uptoBulk d + 1
  | .map entries => uptoBulkEntries entries + 1
  | .held _ => 1
def uptoBulkAll {H : Type} : List (DataW H) → Nat
  | [] => 0
  | d :: r => uptoBulk d + uptoBulkAll r
def uptoBulkEntries {H : Type} : List (Lit × DataW H) → Nat
  | [] => 0
  | x :: r => uptoBulkEntry x + uptoBulkEntries r
def uptoBulkEntry {H : Type} : Lit × DataW H → Nat
  | (.string bytes, d) => bytes.length + uptoBulk d + 1
  | (_, d) => uptoBulk d + 1
 end
def uptoSmall : (H : Type) → List (DataW H) → Bool := fun _ ds => decide (uptoBulkAll ds ≤ 1048576)
def OpenSpec.upto (s : _root_.Go.ChangeSpec) : _root_.Go.OpenSpec := { _root_.Go.OpenSpec.ofChange s with cond := some uptoSmall }

/-- 'spoollaw12.StateBack', WHERE WHAT IT READS IS OF BULK AT MOST 1048576: true; the input reads as it did. -/
def stateBackUptoRow : OpenClaim := { program := "ytinbdkneakblfaa", sum := "5993865ce36b8cc832b810409f827e308e783fd28462cbafda79ed8701fa8498", func := "spool/spoollaw12.StateBack", spec := "stateBack", unfollowed := true, recurses := true, apart := false, narrowed := true }
def StateBackUptoSaid : Prop := stateBackUptoRow.holds Try.pinned (OpenSpec.upto stateBackSpec)

/-- 'spoollaw12.StateOnly', WHERE WHAT IT READS IS OF BULK AT MOST 1048576: true; the input reads as it did. -/
def stateOnlyUptoRow : OpenClaim := { program := "ytinbdkneakblfaa", sum := "5993865ce36b8cc832b810409f827e308e783fd28462cbafda79ed8701fa8498", func := "spool/spoollaw12.StateOnly", spec := "stateOnly", unfollowed := true, recurses := true, apart := false, narrowed := true }
def StateOnlyUptoSaid : Prop := stateOnlyUptoRow.holds Try.pinned (OpenSpec.upto stateOnlySpec)

/-- 'spoollaw12.StateNext', WHERE WHAT IT READS IS OF BULK AT MOST 1048576: true; the input reads as it did. -/
def stateNextUptoRow : OpenClaim := { program := "ytinbdkneakblfaa", sum := "5993865ce36b8cc832b810409f827e308e783fd28462cbafda79ed8701fa8498", func := "spool/spoollaw12.StateNext", spec := "stateNext", unfollowed := true, recurses := true, apart := false, narrowed := true }
def StateNextUptoSaid : Prop := stateNextUptoRow.holds Try.pinned (OpenSpec.upto stateNextSpec)

/-- 'spoollaw12.StatePlays', WHERE WHAT IT READS IS OF BULK AT MOST 1048576: true; the input reads as it did. -/
def statePlaysUptoRow : OpenClaim := { program := "ytinbdkneakblfaa", sum := "5993865ce36b8cc832b810409f827e308e783fd28462cbafda79ed8701fa8498", func := "spool/spoollaw12.StatePlays", spec := "statePlays", unfollowed := true, recurses := true, apart := false, narrowed := true }
def StatePlaysUptoSaid : Prop := statePlaysUptoRow.holds Try.pinned (OpenSpec.upto statePlaysSpec)

/-- 'spoollaw12.StateApart', WHERE WHAT IT READS IS OF BULK AT MOST 1048576: true; the input reads as it did. -/
def stateApartUptoRow : OpenClaim := { program := "ytinbdkneakblfaa", sum := "5993865ce36b8cc832b810409f827e308e783fd28462cbafda79ed8701fa8498", func := "spool/spoollaw12.StateApart", spec := "stateApart", unfollowed := true, recurses := true, apart := false, narrowed := true }
def StateApartUptoSaid : Prop := stateApartUptoRow.holds Try.pinned (OpenSpec.upto stateApartSpec)

/-- 'spoollaw12.StateQuiet', WHERE WHAT IT READS IS OF BULK AT MOST 1048576: true; the input reads as it did. -/
def stateQuietUptoRow : OpenClaim := { program := "ytinbdkneakblfaa", sum := "5993865ce36b8cc832b810409f827e308e783fd28462cbafda79ed8701fa8498", func := "spool/spoollaw12.StateQuiet", spec := "stateQuiet", unfollowed := true, recurses := true, apart := false, narrowed := true }
def StateQuietUptoSaid : Prop := stateQuietUptoRow.holds Try.pinned (OpenSpec.upto stateQuietSpec)

end Rows
end Go.Proofs.Ytinbdkneakblfaa
