/-
  No cell of these rows narrows 'for every input' (looked for: loops, veiled, ifaces, maps, wideKeys, modest, calm, conditions, laid).
  DERIVED. THE GIVEN ROWS OF THIS SEAT. 4 by the template 'for every input the law returns true; each argument reads behind the call as it read before'; 0 by the template 'total and deterministic' (their statements: YtidbagkkkpfkbaaTotals.lean).
  GIVEN WITH THE SEED: the statements are not yours to turn. If you find one false, say at which input.
  Laid BY PROGRAM, IN A SANDBOX (cutbox-rows.mjs): the forced cells as the released guide's own fill.sh prints them over the translation 8ff5b95a5d73e846… (all of the seat's roots in one cut). By AI agents, Wed Nov 11 2026. No macro, syntax, notation, axiom, sorry.
-/
import Derived.Test.YtidbagkkkpfkbaaChecked
import GoSem.Claim
import GoSem.ClaimJoined
import GoSem.ClaimMapViews
import Derived.JoinedTies
import Derived.KernelRfl
namespace Go.Proofs.Ytidbagkkkpfkbaa
/- THE CELL 'sum', in the pinned program and in every row, IS THE sha256 OF THE DUMP (.gsa) THAT YtidbagkkkpfkbaaProg.lean LOADS. Nothing in Lean hashes anything: it is a label: what it is worth is what the hold of that sum in a sandbox is worth. -/
noncomputable def Try.pinned : Pinned := { name := "ytidbagkkkpfkbaa", sum := "8ff5b95a5d73e846a7cc2dc42863f9dd5d56d723d57b793966b0104cb6f0f88f", checked := Try.checked }
namespace Rows
def none {H : Type} : Left H := { results := [], args := [] }

/-- 'spoollaw08.LaplCells': WHATEVER THE INPUT: true; the input reads as it did. -/
def laplCellsSpec : ChangeSpec := { name := "laplCells", fn := fun _ => fun
  | [d] => { results := [.lit (.bool true)], args := [d] }
  | _ => none }
def laplCellsRow : OpenClaim := { program := "ytidbagkkkpfkbaa", sum := "8ff5b95a5d73e846a7cc2dc42863f9dd5d56d723d57b793966b0104cb6f0f88f", func := "spool/spoollaw08.LaplCells", spec := "laplCells", unfollowed := true, recurses := true, apart := false }
def LaplCellsSaid : Prop := laplCellsRow.holds Try.pinned (OpenSpec.ofChange laplCellsSpec)

/-- ITS FALSE NEIGHBOUR: 'it returns false'. Refute it at one input. -/
def laplCellsWrong : ChangeSpec := { name := "laplCells", fn := fun _ => fun
  | [d] => { results := [.lit (.bool false)], args := [d] }
  | _ => none }
def LaplCellsWrongFalsely : Prop := laplCellsRow.holds Try.pinned (OpenSpec.ofChange laplCellsWrong)

/-- 'spoollaw08.LaplPlays': WHATEVER THE INPUT: true; the input reads as it did. -/
def laplPlaysSpec : ChangeSpec := { name := "laplPlays", fn := fun _ => fun
  | [d1, d2, d3] => { results := [.lit (.bool true)], args := [d1, d2, d3] }
  | _ => none }
def laplPlaysRow : OpenClaim := { program := "ytidbagkkkpfkbaa", sum := "8ff5b95a5d73e846a7cc2dc42863f9dd5d56d723d57b793966b0104cb6f0f88f", func := "spool/spoollaw08.LaplPlays", spec := "laplPlays", unfollowed := true, recurses := true, apart := false }
def LaplPlaysSaid : Prop := laplPlaysRow.holds Try.pinned (OpenSpec.ofChange laplPlaysSpec)

/-- ITS FALSE NEIGHBOUR: 'it returns false'. Refute it at one input. -/
def laplPlaysWrong : ChangeSpec := { name := "laplPlays", fn := fun _ => fun
  | [d1, d2, d3] => { results := [.lit (.bool false)], args := [d1, d2, d3] }
  | _ => none }
def LaplPlaysWrongFalsely : Prop := laplPlaysRow.holds Try.pinned (OpenSpec.ofChange laplPlaysWrong)

/-- 'spoollaw08.LaplSides': WHATEVER THE INPUT: true; the input reads as it did. -/
def laplSidesSpec : ChangeSpec := { name := "laplSides", fn := fun _ => fun
  | [d] => { results := [.lit (.bool true)], args := [d] }
  | _ => none }
def laplSidesRow : OpenClaim := { program := "ytidbagkkkpfkbaa", sum := "8ff5b95a5d73e846a7cc2dc42863f9dd5d56d723d57b793966b0104cb6f0f88f", func := "spool/spoollaw08.LaplSides", spec := "laplSides", unfollowed := true, recurses := true, apart := false }
def LaplSidesSaid : Prop := laplSidesRow.holds Try.pinned (OpenSpec.ofChange laplSidesSpec)

/-- ITS FALSE NEIGHBOUR: 'it returns false'. Refute it at one input. -/
def laplSidesWrong : ChangeSpec := { name := "laplSides", fn := fun _ => fun
  | [d] => { results := [.lit (.bool false)], args := [d] }
  | _ => none }
def LaplSidesWrongFalsely : Prop := laplSidesRow.holds Try.pinned (OpenSpec.ofChange laplSidesWrong)

/-- 'spoollaw08.LaplTakes': WHATEVER THE INPUT: true; the input reads as it did. -/
def laplTakesSpec : ChangeSpec := { name := "laplTakes", fn := fun _ => fun
  | [d1, d2] => { results := [.lit (.bool true)], args := [d1, d2] }
  | _ => none }
def laplTakesRow : OpenClaim := { program := "ytidbagkkkpfkbaa", sum := "8ff5b95a5d73e846a7cc2dc42863f9dd5d56d723d57b793966b0104cb6f0f88f", func := "spool/spoollaw08.LaplTakes", spec := "laplTakes", unfollowed := true, recurses := true, apart := false }
def LaplTakesSaid : Prop := laplTakesRow.holds Try.pinned (OpenSpec.ofChange laplTakesSpec)

/-- ITS FALSE NEIGHBOUR: 'it returns false'. Refute it at one input. -/
def laplTakesWrong : ChangeSpec := { name := "laplTakes", fn := fun _ => fun
  | [d1, d2] => { results := [.lit (.bool false)], args := [d1, d2] }
  | _ => none }
def LaplTakesWrongFalsely : Prop := laplTakesRow.holds Try.pinned (OpenSpec.ofChange laplTakesWrong)

/- THE SECOND FORM. 'bulk': how many values and letters a reading holds, each counted each time it is reached (what is shared counts as often as it is met; a slice's spare places count too). A statement '..UptoSaid' is the law's where the arguments, and the package variables that the reading takes, are together of bulk at most 1048576: NARROWER than '..Said'. Prove '..Said' where nothing that the law and all that it calls make is longer than what came in: it says more and counts as full. Else prove '..UptoSaid'. A law counts once. -/
mutual
def uptoBulk {H : Type} : DataW H → Nat
  | .lit (.string bytes) => bytes.length + 1
  | .lit _ => 1
  | .nil => 1
  | .ptr d => uptoBulk d + 1
  | .slice elems spare => uptoBulkAll elems + uptoBulkAll spare + 1
  | .agg parts => uptoBulkAll parts + 1
  | .iface _ d => uptoBulk d + 1
  | .map entries => uptoBulkEntries entries + 1
  | .held _ => 1
def uptoBulkAll {H : Type} : List (DataW H) → Nat
  | [] => 0
  | d :: r => uptoBulk d + uptoBulkAll r
def uptoBulkEntries {H : Type} : List (Lit × DataW H) → Nat
  | [] => 0
  | x :: r => uptoBulkEntry x + uptoBulkEntries r
def uptoBulkEntry {H : Type} : Lit × DataW H → Nat
  | (.string bytes, d) => bytes.length + uptoBulk d + 1
  | (_, d) => uptoBulk d + 1
 end
def uptoSmall : (H : Type) → List (DataW H) → Bool := fun _ ds => decide (uptoBulkAll ds ≤ 1048576)
def OpenSpec.upto (s : _root_.Go.ChangeSpec) : _root_.Go.OpenSpec := { _root_.Go.OpenSpec.ofChange s with cond := some uptoSmall }

/-- 'spoollaw08.LaplCells', WHERE WHAT IT READS IS OF BULK AT MOST 1048576: true; the input reads as it did. -/
def laplCellsUptoRow : OpenClaim := { program := "ytidbagkkkpfkbaa", sum := "8ff5b95a5d73e846a7cc2dc42863f9dd5d56d723d57b793966b0104cb6f0f88f", func := "spool/spoollaw08.LaplCells", spec := "laplCells", unfollowed := true, recurses := true, apart := false, narrowed := true }
def LaplCellsUptoSaid : Prop := laplCellsUptoRow.holds Try.pinned (OpenSpec.upto laplCellsSpec)

/-- 'spoollaw08.LaplPlays', WHERE WHAT IT READS IS OF BULK AT MOST 1048576: true; the input reads as it did. -/
def laplPlaysUptoRow : OpenClaim := { program := "ytidbagkkkpfkbaa", sum := "8ff5b95a5d73e846a7cc2dc42863f9dd5d56d723d57b793966b0104cb6f0f88f", func := "spool/spoollaw08.LaplPlays", spec := "laplPlays", unfollowed := true, recurses := true, apart := false, narrowed := true }
def LaplPlaysUptoSaid : Prop := laplPlaysUptoRow.holds Try.pinned (OpenSpec.upto laplPlaysSpec)

/-- 'spoollaw08.LaplSides', WHERE WHAT IT READS IS OF BULK AT MOST 1048576: true; the input reads as it did. -/
def laplSidesUptoRow : OpenClaim := { program := "ytidbagkkkpfkbaa", sum := "8ff5b95a5d73e846a7cc2dc42863f9dd5d56d723d57b793966b0104cb6f0f88f", func := "spool/spoollaw08.LaplSides", spec := "laplSides", unfollowed := true, recurses := true, apart := false, narrowed := true }
def LaplSidesUptoSaid : Prop := laplSidesUptoRow.holds Try.pinned (OpenSpec.upto laplSidesSpec)

/-- 'spoollaw08.LaplTakes', WHERE WHAT IT READS IS OF BULK AT MOST 1048576: true; the input reads as it did. -/
def laplTakesUptoRow : OpenClaim := { program := "ytidbagkkkpfkbaa", sum := "8ff5b95a5d73e846a7cc2dc42863f9dd5d56d723d57b793966b0104cb6f0f88f", func := "spool/spoollaw08.LaplTakes", spec := "laplTakes", unfollowed := true, recurses := true, apart := false, narrowed := true }
def LaplTakesUptoSaid : Prop := laplTakesUptoRow.holds Try.pinned (OpenSpec.upto laplTakesSpec)

end Rows
end Go.Proofs.Ytidbagkkkpfkbaa
