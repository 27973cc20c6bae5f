/-
  No cell of these rows narrows 'for every input' (looked for: loops, veiled, ifaces, maps, wideKeys, modest, calm, conditions, laid).
  DERIVED. THE GIVEN ROWS OF THIS SEAT. 5 by the template 'for every input the law returns true; each argument reads behind the call as it read before'; 0 by the template 'total and deterministic' (their statements: YtabenllglldkkaaTotals.lean).
  GIVEN WITH THE SEED: the statements are not yours to turn. If you find one false, say at which input.
  Laid BY PROGRAM, IN A SANDBOX (cutbox-rows.mjs): the forced cells as the released guide's own fill.sh prints them over the translation a6e1550a731c2182… (all of the seat's roots in one cut). By AI agents, Wed Nov 11 2026. No macro, syntax, notation, axiom, sorry.
-/
import Derived.Test.YtabenllglldkkaaChecked
import GoSem.Claim
import GoSem.ClaimJoined
import GoSem.ClaimMapViews
import Derived.JoinedTies
import Derived.KernelRfl
namespace Go.Proofs.Ytabenllglldkkaa
/- THE CELL 'sum', in the pinned program and in every row, IS THE sha256 OF THE DUMP (.gsa) THAT YtabenllglldkkaaProg.lean LOADS. Nothing in Lean hashes anything: it is a label: what it is worth is what the hold of that sum in a sandbox is worth. -/
noncomputable def Try.pinned : Pinned := { name := "ytabenllglldkkaa", sum := "a6e1550a731c21822c17a91b9e874941722ebcee326f251e5401e72071b8e3d6", checked := Try.checked }
namespace Rows
def none {H : Type} : Left H := { results := [], args := [] }

/-- 'spoollaw04.MdctOver': WHATEVER THE INPUT: true; the input reads as it did. -/
def mdctOverSpec : ChangeSpec := { name := "mdctOver", fn := fun _ => fun
  | [d1, d2, d3] => { results := [.lit (.bool true)], args := [d1, d2, d3] }
  | _ => none }
def mdctOverRow : OpenClaim := { program := "ytabenllglldkkaa", sum := "a6e1550a731c21822c17a91b9e874941722ebcee326f251e5401e72071b8e3d6", func := "spool/spoollaw04.MdctOver", spec := "mdctOver", unfollowed := true, recurses := true, apart := false }
def MdctOverSaid : Prop := mdctOverRow.holds Try.pinned (OpenSpec.ofChange mdctOverSpec)

/-- ITS FALSE NEIGHBOUR: 'it returns false'. Refute it at one input. -/
def mdctOverWrong : ChangeSpec := { name := "mdctOver", fn := fun _ => fun
  | [d1, d2, d3] => { results := [.lit (.bool false)], args := [d1, d2, d3] }
  | _ => none }
def MdctOverWrongFalsely : Prop := mdctOverRow.holds Try.pinned (OpenSpec.ofChange mdctOverWrong)

/-- 'spoollaw04.MdctSizes': WHATEVER THE INPUT: true; the input reads as it did. -/
def mdctSizesSpec : ChangeSpec := { name := "mdctSizes", fn := fun _ => fun
  | [d1, d2] => { results := [.lit (.bool true)], args := [d1, d2] }
  | _ => none }
def mdctSizesRow : OpenClaim := { program := "ytabenllglldkkaa", sum := "a6e1550a731c21822c17a91b9e874941722ebcee326f251e5401e72071b8e3d6", func := "spool/spoollaw04.MdctSizes", spec := "mdctSizes", unfollowed := true, recurses := true, apart := false }
def MdctSizesSaid : Prop := mdctSizesRow.holds Try.pinned (OpenSpec.ofChange mdctSizesSpec)

/-- ITS FALSE NEIGHBOUR: 'it returns false'. Refute it at one input. -/
def mdctSizesWrong : ChangeSpec := { name := "mdctSizes", fn := fun _ => fun
  | [d1, d2] => { results := [.lit (.bool false)], args := [d1, d2] }
  | _ => none }
def MdctSizesWrongFalsely : Prop := mdctSizesRow.holds Try.pinned (OpenSpec.ofChange mdctSizesWrong)

/-- 'spoollaw04.MdctPlays': WHATEVER THE INPUT: true; the input reads as it did. -/
def mdctPlaysSpec : ChangeSpec := { name := "mdctPlays", fn := fun _ => fun
  | [d1, d2] => { results := [.lit (.bool true)], args := [d1, d2] }
  | _ => none }
def mdctPlaysRow : OpenClaim := { program := "ytabenllglldkkaa", sum := "a6e1550a731c21822c17a91b9e874941722ebcee326f251e5401e72071b8e3d6", func := "spool/spoollaw04.MdctPlays", spec := "mdctPlays", unfollowed := true, recurses := true, apart := false }
def MdctPlaysSaid : Prop := mdctPlaysRow.holds Try.pinned (OpenSpec.ofChange mdctPlaysSpec)

/-- ITS FALSE NEIGHBOUR: 'it returns false'. Refute it at one input. -/
def mdctPlaysWrong : ChangeSpec := { name := "mdctPlays", fn := fun _ => fun
  | [d1, d2] => { results := [.lit (.bool false)], args := [d1, d2] }
  | _ => none }
def MdctPlaysWrongFalsely : Prop := mdctPlaysRow.holds Try.pinned (OpenSpec.ofChange mdctPlaysWrong)

/-- 'spoollaw04.MdctAdds': WHATEVER THE INPUT: true; the input reads as it did. -/
def mdctAddsSpec : ChangeSpec := { name := "mdctAdds", fn := fun _ => fun
  | [d1, d2, d3, d4] => { results := [.lit (.bool true)], args := [d1, d2, d3, d4] }
  | _ => none }
def mdctAddsRow : OpenClaim := { program := "ytabenllglldkkaa", sum := "a6e1550a731c21822c17a91b9e874941722ebcee326f251e5401e72071b8e3d6", func := "spool/spoollaw04.MdctAdds", spec := "mdctAdds", unfollowed := true, recurses := true, apart := false }
def MdctAddsSaid : Prop := mdctAddsRow.holds Try.pinned (OpenSpec.ofChange mdctAddsSpec)

/-- ITS FALSE NEIGHBOUR: 'it returns false'. Refute it at one input. -/
def mdctAddsWrong : ChangeSpec := { name := "mdctAdds", fn := fun _ => fun
  | [d1, d2, d3, d4] => { results := [.lit (.bool false)], args := [d1, d2, d3, d4] }
  | _ => none }
def MdctAddsWrongFalsely : Prop := mdctAddsRow.holds Try.pinned (OpenSpec.ofChange mdctAddsWrong)

/-- 'spoollaw04.MdctLays': WHATEVER THE INPUT: true; the input reads as it did. -/
def mdctLaysSpec : ChangeSpec := { name := "mdctLays", fn := fun _ => fun
  | [d1, d2] => { results := [.lit (.bool true)], args := [d1, d2] }
  | _ => none }
def mdctLaysRow : OpenClaim := { program := "ytabenllglldkkaa", sum := "a6e1550a731c21822c17a91b9e874941722ebcee326f251e5401e72071b8e3d6", func := "spool/spoollaw04.MdctLays", spec := "mdctLays", unfollowed := true, recurses := true, apart := false }
def MdctLaysSaid : Prop := mdctLaysRow.holds Try.pinned (OpenSpec.ofChange mdctLaysSpec)

/-- ITS FALSE NEIGHBOUR: 'it returns false'. Refute it at one input. -/
def mdctLaysWrong : ChangeSpec := { name := "mdctLays", fn := fun _ => fun
  | [d1, d2] => { results := [.lit (.bool false)], args := [d1, d2] }
  | _ => none }
def MdctLaysWrongFalsely : Prop := mdctLaysRow.holds Try.pinned (OpenSpec.ofChange mdctLaysWrong)

/- THE SECOND FORM. 'bulk': how many values and letters a reading holds, each counted each time it is reached (what is shared counts as often as it is met; a slice's spare places count too). A statement '..UptoSaid' is the law's where the arguments, and the package variables that the reading takes, are together of bulk at most 1048576: NARROWER than '..Said'. Prove '..Said' where nothing that the law and all that it calls make is longer than what came in: it says more and counts as full. Else prove '..UptoSaid'. A law counts once. -/
mutual
def uptoBulk {H : Type} : DataW H → Nat
  | .lit (.string bytes) => bytes.length + 1
  | .lit _ => 1
  | .nil => 1
  | .ptr d => uptoBulk d + 1
  | .slice elems spare => uptoBulkAll elems + uptoBulkAll spare + 1
  | .agg parts => uptoBulkAll parts + 1
  | .iface _ d => uptoBulk d + 1
  | .map entries => uptoBulkEntries entries + 1
  | .held _ => 1
def uptoBulkAll {H : Type} : List (DataW H) → Nat
  | [] => 0
  | d :: r => uptoBulk d + uptoBulkAll r
def uptoBulkEntries {H : Type} : List (Lit × DataW H) → Nat
  | [] => 0
  | x :: r => uptoBulkEntry x + uptoBulkEntries r
def uptoBulkEntry {H : Type} : Lit × DataW H → Nat
  | (.string bytes, d) => bytes.length + uptoBulk d + 1
  | (_, d) => uptoBulk d + 1
 end
def uptoSmall : (H : Type) → List (DataW H) → Bool := fun _ ds => decide (uptoBulkAll ds ≤ 1048576)
def OpenSpec.upto (s : _root_.Go.ChangeSpec) : _root_.Go.OpenSpec := { _root_.Go.OpenSpec.ofChange s with cond := some uptoSmall }

/-- 'spoollaw04.MdctOver', WHERE WHAT IT READS IS OF BULK AT MOST 1048576: true; the input reads as it did. -/
def mdctOverUptoRow : OpenClaim := { program := "ytabenllglldkkaa", sum := "a6e1550a731c21822c17a91b9e874941722ebcee326f251e5401e72071b8e3d6", func := "spool/spoollaw04.MdctOver", spec := "mdctOver", unfollowed := true, recurses := true, apart := false, narrowed := true }
def MdctOverUptoSaid : Prop := mdctOverUptoRow.holds Try.pinned (OpenSpec.upto mdctOverSpec)

/-- 'spoollaw04.MdctSizes', WHERE WHAT IT READS IS OF BULK AT MOST 1048576: true; the input reads as it did. -/
def mdctSizesUptoRow : OpenClaim := { program := "ytabenllglldkkaa", sum := "a6e1550a731c21822c17a91b9e874941722ebcee326f251e5401e72071b8e3d6", func := "spool/spoollaw04.MdctSizes", spec := "mdctSizes", unfollowed := true, recurses := true, apart := false, narrowed := true }
def MdctSizesUptoSaid : Prop := mdctSizesUptoRow.holds Try.pinned (OpenSpec.upto mdctSizesSpec)

/-- 'spoollaw04.MdctPlays', WHERE WHAT IT READS IS OF BULK AT MOST 1048576: true; the input reads as it did. -/
def mdctPlaysUptoRow : OpenClaim := { program := "ytabenllglldkkaa", sum := "a6e1550a731c21822c17a91b9e874941722ebcee326f251e5401e72071b8e3d6", func := "spool/spoollaw04.MdctPlays", spec := "mdctPlays", unfollowed := true, recurses := true, apart := false, narrowed := true }
def MdctPlaysUptoSaid : Prop := mdctPlaysUptoRow.holds Try.pinned (OpenSpec.upto mdctPlaysSpec)

/-- 'spoollaw04.MdctAdds', WHERE WHAT IT READS IS OF BULK AT MOST 1048576: true; the input reads as it did. -/
def mdctAddsUptoRow : OpenClaim := { program := "ytabenllglldkkaa", sum := "a6e1550a731c21822c17a91b9e874941722ebcee326f251e5401e72071b8e3d6", func := "spool/spoollaw04.MdctAdds", spec := "mdctAdds", unfollowed := true, recurses := true, apart := false, narrowed := true }
def MdctAddsUptoSaid : Prop := mdctAddsUptoRow.holds Try.pinned (OpenSpec.upto mdctAddsSpec)

/-- 'spoollaw04.MdctLays', WHERE WHAT IT READS IS OF BULK AT MOST 1048576: true; the input reads as it did. -/
def mdctLaysUptoRow : OpenClaim := { program := "ytabenllglldkkaa", sum := "a6e1550a731c21822c17a91b9e874941722ebcee326f251e5401e72071b8e3d6", func := "spool/spoollaw04.MdctLays", spec := "mdctLays", unfollowed := true, recurses := true, apart := false, narrowed := true }
def MdctLaysUptoSaid : Prop := mdctLaysUptoRow.holds Try.pinned (OpenSpec.upto mdctLaysSpec)

end Rows
end Go.Proofs.Ytabenllglldkkaa
