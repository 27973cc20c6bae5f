/-
  No cell of these rows narrows 'for every input' (looked for: loops, veiled, ifaces, maps, wideKeys, modest, calm, conditions, laid).
  DERIVED. THE GIVEN ROWS OF THIS SEAT. 4 by the template 'for every input the law returns true; each argument reads behind the call as it read before'; 0 by the template 'total and deterministic' (their statements: YtbbeekpndhfpjaaTotals.lean).
  GIVEN WITH THE SEED: the statements are not yours to turn. If you find one false, say at which input.
  Laid BY PROGRAM, IN A SANDBOX (cutbox-rows.mjs): the forced cells as the released guide's own fill.sh prints them over the translation 2ac84f38edea997d… (all of the seat's roots in one cut). By AI agents, Wed Nov 11 2026. No macro, syntax, notation, axiom, sorry.
-/
import Derived.Test.YtbbeekpndhfpjaaChecked
import GoSem.Claim
import GoSem.ClaimJoined
import GoSem.ClaimMapViews
import Derived.JoinedTies
import Derived.KernelRfl
namespace Go.Proofs.Ytbbeekpndhfpjaa
/- THE CELL 'sum', in the pinned program and in every row, IS THE sha256 OF THE DUMP (.gsa) THAT YtbbeekpndhfpjaaProg.lean LOADS. Nothing in Lean hashes anything: it is a label: what it is worth is what the hold of that sum in a sandbox is worth. -/
noncomputable def Try.pinned : Pinned := { name := "ytbbeekpndhfpjaa", sum := "2ac84f38edea997d4feeab3c4179d0fc9354f616879db1a928f4b46c182e5ed1", checked := Try.checked }
namespace Rows
def none {H : Type} : Left H := { results := [], args := [] }

/-- 'spoollaw19.SegLasts': WHATEVER THE INPUT: true; the input reads as it did. -/
def segLastsSpec : ChangeSpec := { name := "segLasts", fn := fun _ => fun
  | [d1, d2] => { results := [.lit (.bool true)], args := [d1, d2] }
  | _ => none }
def segLastsRow : OpenClaim := { program := "ytbbeekpndhfpjaa", sum := "2ac84f38edea997d4feeab3c4179d0fc9354f616879db1a928f4b46c182e5ed1", func := "spool/spoollaw19.SegLasts", spec := "segLasts", unfollowed := true, recurses := true, apart := false }
def SegLastsSaid : Prop := segLastsRow.holds Try.pinned (OpenSpec.ofChange segLastsSpec)

/-- ITS FALSE NEIGHBOUR: 'it returns false'. Refute it at one input. -/
def segLastsWrong : ChangeSpec := { name := "segLasts", fn := fun _ => fun
  | [d1, d2] => { results := [.lit (.bool false)], args := [d1, d2] }
  | _ => none }
def SegLastsWrongFalsely : Prop := segLastsRow.holds Try.pinned (OpenSpec.ofChange segLastsWrong)

/-- 'spoollaw19.SegFrozen': WHATEVER THE INPUT: true; the input reads as it did. -/
def segFrozenSpec : ChangeSpec := { name := "segFrozen", fn := fun _ => fun
  | [d1, d2] => { results := [.lit (.bool true)], args := [d1, d2] }
  | _ => none }
def segFrozenRow : OpenClaim := { program := "ytbbeekpndhfpjaa", sum := "2ac84f38edea997d4feeab3c4179d0fc9354f616879db1a928f4b46c182e5ed1", func := "spool/spoollaw19.SegFrozen", spec := "segFrozen", unfollowed := true, recurses := true, apart := false }
def SegFrozenSaid : Prop := segFrozenRow.holds Try.pinned (OpenSpec.ofChange segFrozenSpec)

/-- ITS FALSE NEIGHBOUR: 'it returns false'. Refute it at one input. -/
def segFrozenWrong : ChangeSpec := { name := "segFrozen", fn := fun _ => fun
  | [d1, d2] => { results := [.lit (.bool false)], args := [d1, d2] }
  | _ => none }
def SegFrozenWrongFalsely : Prop := segFrozenRow.holds Try.pinned (OpenSpec.ofChange segFrozenWrong)

/-- 'spoollaw19.SegNeeds': WHATEVER THE INPUT: true; the input reads as it did. -/
def segNeedsSpec : ChangeSpec := { name := "segNeeds", fn := fun _ => fun
  | [d1, d2, d3] => { results := [.lit (.bool true)], args := [d1, d2, d3] }
  | _ => none }
def segNeedsRow : OpenClaim := { program := "ytbbeekpndhfpjaa", sum := "2ac84f38edea997d4feeab3c4179d0fc9354f616879db1a928f4b46c182e5ed1", func := "spool/spoollaw19.SegNeeds", spec := "segNeeds", unfollowed := true, recurses := true, apart := false }
def SegNeedsSaid : Prop := segNeedsRow.holds Try.pinned (OpenSpec.ofChange segNeedsSpec)

/-- ITS FALSE NEIGHBOUR: 'it returns false'. Refute it at one input. -/
def segNeedsWrong : ChangeSpec := { name := "segNeeds", fn := fun _ => fun
  | [d1, d2, d3] => { results := [.lit (.bool false)], args := [d1, d2, d3] }
  | _ => none }
def SegNeedsWrongFalsely : Prop := segNeedsRow.holds Try.pinned (OpenSpec.ofChange segNeedsWrong)

/-- 'spoollaw19.SegFull': WHATEVER THE INPUT: true; the input reads as it did. -/
def segFullSpec : ChangeSpec := { name := "segFull", fn := fun _ => fun
  | [d] => { results := [.lit (.bool true)], args := [d] }
  | _ => none }
def segFullRow : OpenClaim := { program := "ytbbeekpndhfpjaa", sum := "2ac84f38edea997d4feeab3c4179d0fc9354f616879db1a928f4b46c182e5ed1", func := "spool/spoollaw19.SegFull", spec := "segFull", unfollowed := true, recurses := true, apart := false }
def SegFullSaid : Prop := segFullRow.holds Try.pinned (OpenSpec.ofChange segFullSpec)

/-- ITS FALSE NEIGHBOUR: 'it returns false'. Refute it at one input. -/
def segFullWrong : ChangeSpec := { name := "segFull", fn := fun _ => fun
  | [d] => { results := [.lit (.bool false)], args := [d] }
  | _ => none }
def SegFullWrongFalsely : Prop := segFullRow.holds Try.pinned (OpenSpec.ofChange segFullWrong)

/- THE SECOND FORM. 'bulk': how many values and letters a reading holds, each counted each time it is reached (what is shared counts as often as it is met; a slice's spare places count too). A statement '..UptoSaid' is the law's where the arguments, and the package variables that the reading takes, are together of bulk at most 1048576: NARROWER than '..Said'. Prove '..Said' where nothing that the law and all that it calls make is longer than what came in: it says more and counts as full. Else prove '..UptoSaid'. A law counts once. -/
mutual
def uptoBulk {H : Type} : DataW H → Nat
  | .lit (.string bytes) => bytes.length + 1
  | .lit _ => 1
  | .nil => 1
  | .ptr d => uptoBulk d + 1
  | .slice elems spare => uptoBulkAll elems + uptoBulkAll spare + 1
  | .agg parts => uptoBulkAll parts + 1
  | .iface _ d => uptoBulk d + 1
  | .map entries => uptoBulkEntries entries + 1
  | .held _ => 1
def uptoBulkAll {H : Type} : List (DataW H) → Nat
  | [] => 0
  | d :: r => uptoBulk d + uptoBulkAll r
def uptoBulkEntries {H : Type} : List (Lit × DataW H) → Nat
  | [] => 0
  | x :: r => uptoBulkEntry x + uptoBulkEntries r
def uptoBulkEntry {H : Type} : Lit × DataW H → Nat
  | (.string bytes, d) => bytes.length + uptoBulk d + 1
  | (_, d) => uptoBulk d + 1
 end
def uptoSmall : (H : Type) → List (DataW H) → Bool := fun _ ds => decide (uptoBulkAll ds ≤ 1048576)
def OpenSpec.upto (s : _root_.Go.ChangeSpec) : _root_.Go.OpenSpec := { _root_.Go.OpenSpec.ofChange s with cond := some uptoSmall }

/-- 'spoollaw19.SegLasts', WHERE WHAT IT READS IS OF BULK AT MOST 1048576: true; the input reads as it did. -/
def segLastsUptoRow : OpenClaim := { program := "ytbbeekpndhfpjaa", sum := "2ac84f38edea997d4feeab3c4179d0fc9354f616879db1a928f4b46c182e5ed1", func := "spool/spoollaw19.SegLasts", spec := "segLasts", unfollowed := true, recurses := true, apart := false, narrowed := true }
def SegLastsUptoSaid : Prop := segLastsUptoRow.holds Try.pinned (OpenSpec.upto segLastsSpec)

/-- 'spoollaw19.SegFrozen', WHERE WHAT IT READS IS OF BULK AT MOST 1048576: true; the input reads as it did. -/
def segFrozenUptoRow : OpenClaim := { program := "ytbbeekpndhfpjaa", sum := "2ac84f38edea997d4feeab3c4179d0fc9354f616879db1a928f4b46c182e5ed1", func := "spool/spoollaw19.SegFrozen", spec := "segFrozen", unfollowed := true, recurses := true, apart := false, narrowed := true }
def SegFrozenUptoSaid : Prop := segFrozenUptoRow.holds Try.pinned (OpenSpec.upto segFrozenSpec)

/-- 'spoollaw19.SegNeeds', WHERE WHAT IT READS IS OF BULK AT MOST 1048576: true; the input reads as it did. -/
def segNeedsUptoRow : OpenClaim := { program := "ytbbeekpndhfpjaa", sum := "2ac84f38edea997d4feeab3c4179d0fc9354f616879db1a928f4b46c182e5ed1", func := "spool/spoollaw19.SegNeeds", spec := "segNeeds", unfollowed := true, recurses := true, apart := false, narrowed := true }
def SegNeedsUptoSaid : Prop := segNeedsUptoRow.holds Try.pinned (OpenSpec.upto segNeedsSpec)

/-- 'spoollaw19.SegFull', WHERE WHAT IT READS IS OF BULK AT MOST 1048576: true; the input reads as it did. -/
def segFullUptoRow : OpenClaim := { program := "ytbbeekpndhfpjaa", sum := "2ac84f38edea997d4feeab3c4179d0fc9354f616879db1a928f4b46c182e5ed1", func := "spool/spoollaw19.SegFull", spec := "segFull", unfollowed := true, recurses := true, apart := false, narrowed := true }
def SegFullUptoSaid : Prop := segFullUptoRow.holds Try.pinned (OpenSpec.upto segFullSpec)

end Rows
end Go.Proofs.Ytbbeekpndhfpjaa
