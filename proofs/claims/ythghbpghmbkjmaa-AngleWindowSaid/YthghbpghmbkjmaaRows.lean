/-
  No cell of these rows narrows 'for every input' (looked for: loops, veiled, ifaces, maps, wideKeys, modest, calm, conditions, laid).
  DERIVED. THE GIVEN ROWS OF THIS SEAT. 5 by the template 'for every input the law returns true; each argument reads behind the call as it read before'; 0 by the template 'total and deterministic' (their statements: YthghbpghmbkjmaaTotals.lean).
  GIVEN WITH THE SEED: the statements are not yours to turn. If you find one false, say at which input.
  Laid BY PROGRAM, IN A SANDBOX (cutbox-rows.mjs): the forced cells as the released guide's own fill.sh prints them over the translation df803d9e1e676f3c… (all of the seat's roots in one cut). By AI agents, Wed Nov 11 2026. No macro, syntax, notation, axiom, sorry.
-/
import Derived.Test.YthghbpghmbkjmaaChecked
import GoSem.Claim
import GoSem.ClaimJoined
import GoSem.ClaimMapViews
import Derived.JoinedTies
import Derived.KernelRfl
namespace Go.Proofs.Ythghbpghmbkjmaa
/- THE CELL 'sum', in the pinned program and in every row, IS THE sha256 OF THE DUMP (.gsa) THAT YthghbpghmbkjmaaProg.lean LOADS. Nothing in Lean hashes anything: it is a label: what it is worth is what the hold of that sum in a sandbox is worth. -/
noncomputable def Try.pinned : Pinned := { name := "ythghbpghmbkjmaa", sum := "df803d9e1e676f3cceb9c8dafcc5a983fafcc7635c8213df7759d6b26faa8a5d", checked := Try.checked }
namespace Rows
def none {H : Type} : Left H := { results := [], args := [] }

/-- 'spoollaw03.AngleTurns': WHATEVER THE INPUT: true; the input reads as it did. -/
def angleTurnsSpec : ChangeSpec := { name := "angleTurns", fn := fun _ => fun
  | [d] => { results := [.lit (.bool true)], args := [d] }
  | _ => none }
def angleTurnsRow : OpenClaim := { program := "ythghbpghmbkjmaa", sum := "df803d9e1e676f3cceb9c8dafcc5a983fafcc7635c8213df7759d6b26faa8a5d", func := "spool/spoollaw03.AngleTurns", spec := "angleTurns", apart := false }
def AngleTurnsSaid : Prop := angleTurnsRow.holds Try.pinned (OpenSpec.ofChange angleTurnsSpec)

/-- ITS FALSE NEIGHBOUR: 'it returns false'. Refute it at one input. -/
def angleTurnsWrong : ChangeSpec := { name := "angleTurns", fn := fun _ => fun
  | [d] => { results := [.lit (.bool false)], args := [d] }
  | _ => none }
def AngleTurnsWrongFalsely : Prop := angleTurnsRow.holds Try.pinned (OpenSpec.ofChange angleTurnsWrong)

/-- 'spoollaw03.AngleSquares': WHATEVER THE INPUT: true; the input reads as it did. -/
def angleSquaresSpec : ChangeSpec := { name := "angleSquares", fn := fun _ => fun
  | [d] => { results := [.lit (.bool true)], args := [d] }
  | _ => none }
def angleSquaresRow : OpenClaim := { program := "ythghbpghmbkjmaa", sum := "df803d9e1e676f3cceb9c8dafcc5a983fafcc7635c8213df7759d6b26faa8a5d", func := "spool/spoollaw03.AngleSquares", spec := "angleSquares", apart := false }
def AngleSquaresSaid : Prop := angleSquaresRow.holds Try.pinned (OpenSpec.ofChange angleSquaresSpec)

/-- ITS FALSE NEIGHBOUR: 'it returns false'. Refute it at one input. -/
def angleSquaresWrong : ChangeSpec := { name := "angleSquares", fn := fun _ => fun
  | [d] => { results := [.lit (.bool false)], args := [d] }
  | _ => none }
def AngleSquaresWrongFalsely : Prop := angleSquaresRow.holds Try.pinned (OpenSpec.ofChange angleSquaresWrong)

/-- 'spoollaw03.AnglePlays': WHATEVER THE INPUT: true; the input reads as it did. -/
def anglePlaysSpec : ChangeSpec := { name := "anglePlays", fn := fun _ => fun
  | [d] => { results := [.lit (.bool true)], args := [d] }
  | _ => none }
def anglePlaysRow : OpenClaim := { program := "ythghbpghmbkjmaa", sum := "df803d9e1e676f3cceb9c8dafcc5a983fafcc7635c8213df7759d6b26faa8a5d", func := "spool/spoollaw03.AnglePlays", spec := "anglePlays", apart := false }
def AnglePlaysSaid : Prop := anglePlaysRow.holds Try.pinned (OpenSpec.ofChange anglePlaysSpec)

/-- ITS FALSE NEIGHBOUR: 'it returns false'. Refute it at one input. -/
def anglePlaysWrong : ChangeSpec := { name := "anglePlays", fn := fun _ => fun
  | [d] => { results := [.lit (.bool false)], args := [d] }
  | _ => none }
def AnglePlaysWrongFalsely : Prop := anglePlaysRow.holds Try.pinned (OpenSpec.ofChange anglePlaysWrong)

/-- 'spoollaw03.AngleWindow': WHATEVER THE INPUT: true; the input reads as it did. -/
def angleWindowSpec : ChangeSpec := { name := "angleWindow", fn := fun _ => fun
  | [d] => { results := [.lit (.bool true)], args := [d] }
  | _ => none }
def angleWindowRow : OpenClaim := { program := "ythghbpghmbkjmaa", sum := "df803d9e1e676f3cceb9c8dafcc5a983fafcc7635c8213df7759d6b26faa8a5d", func := "spool/spoollaw03.AngleWindow", spec := "angleWindow", apart := false }
def AngleWindowSaid : Prop := angleWindowRow.holds Try.pinned (OpenSpec.ofChange angleWindowSpec)

/-- ITS FALSE NEIGHBOUR: 'it returns false'. Refute it at one input. -/
def angleWindowWrong : ChangeSpec := { name := "angleWindow", fn := fun _ => fun
  | [d] => { results := [.lit (.bool false)], args := [d] }
  | _ => none }
def AngleWindowWrongFalsely : Prop := angleWindowRow.holds Try.pinned (OpenSpec.ofChange angleWindowWrong)

/-- 'spoollaw03.AngleTwice': WHATEVER THE INPUT: true; the input reads as it did. -/
def angleTwiceSpec : ChangeSpec := { name := "angleTwice", fn := fun _ => fun
  | [d] => { results := [.lit (.bool true)], args := [d] }
  | _ => none }
def angleTwiceRow : OpenClaim := { program := "ythghbpghmbkjmaa", sum := "df803d9e1e676f3cceb9c8dafcc5a983fafcc7635c8213df7759d6b26faa8a5d", func := "spool/spoollaw03.AngleTwice", spec := "angleTwice", apart := false }
def AngleTwiceSaid : Prop := angleTwiceRow.holds Try.pinned (OpenSpec.ofChange angleTwiceSpec)

/-- ITS FALSE NEIGHBOUR: 'it returns false'. Refute it at one input. -/
def angleTwiceWrong : ChangeSpec := { name := "angleTwice", fn := fun _ => fun
  | [d] => { results := [.lit (.bool false)], args := [d] }
  | _ => none }
def AngleTwiceWrongFalsely : Prop := angleTwiceRow.holds Try.pinned (OpenSpec.ofChange angleTwiceWrong)

/- THE SECOND FORM. 'bulk': how many values and letters a reading holds, each counted each time it is reached (what is shared counts as often as it is met; a slice's spare places count too). A statement '..UptoSaid' is the law's where the arguments, and the package variables that the reading takes, are together of bulk at most 1048576: NARROWER than '..Said'. Prove '..Said' where nothing that the law and all that it calls make is longer than what came in: it says more and counts as full. Else prove '..UptoSaid'. A law counts once. -/
mutual
def uptoBulk {H : Type} : DataW H → Nat
  | .lit (.string bytes) => bytes.length + 1
  | .lit _ => 1
  | .nil => 1
  | .ptr d => uptoBulk d + 1
  | .slice elems spare => uptoBulkAll elems + uptoBulkAll spare + 1
  | .agg parts => uptoBulkAll parts + 1
  | .iface _ d => uptoBulk d + 1
  | .map entries => uptoBulkEntries entries + 1
  | .held _ => 1
def uptoBulkAll {H : Type} : List (DataW H) → Nat
  | [] => 0
  | d :: r => uptoBulk d + uptoBulkAll r
def uptoBulkEntries {H : Type} : List (Lit × DataW H) → Nat
  | [] => 0
  | x :: r => uptoBulkEntry x + uptoBulkEntries r
def uptoBulkEntry {H : Type} : Lit × DataW H → Nat
  | (.string bytes, d) => bytes.length + uptoBulk d + 1
  | (_, d) => uptoBulk d + 1
 end
def uptoSmall : (H : Type) → List (DataW H) → Bool := fun _ ds => decide (uptoBulkAll ds ≤ 1048576)
def OpenSpec.upto (s : _root_.Go.ChangeSpec) : _root_.Go.OpenSpec := { _root_.Go.OpenSpec.ofChange s with cond := some uptoSmall }

/-- 'spoollaw03.AngleTurns', WHERE WHAT IT READS IS OF BULK AT MOST 1048576: true; the input reads as it did. -/
def angleTurnsUptoRow : OpenClaim := { program := "ythghbpghmbkjmaa", sum := "df803d9e1e676f3cceb9c8dafcc5a983fafcc7635c8213df7759d6b26faa8a5d", func := "spool/spoollaw03.AngleTurns", spec := "angleTurns", apart := false, narrowed := true }
def AngleTurnsUptoSaid : Prop := angleTurnsUptoRow.holds Try.pinned (OpenSpec.upto angleTurnsSpec)

/-- 'spoollaw03.AngleSquares', WHERE WHAT IT READS IS OF BULK AT MOST 1048576: true; the input reads as it did. -/
def angleSquaresUptoRow : OpenClaim := { program := "ythghbpghmbkjmaa", sum := "df803d9e1e676f3cceb9c8dafcc5a983fafcc7635c8213df7759d6b26faa8a5d", func := "spool/spoollaw03.AngleSquares", spec := "angleSquares", apart := false, narrowed := true }
def AngleSquaresUptoSaid : Prop := angleSquaresUptoRow.holds Try.pinned (OpenSpec.upto angleSquaresSpec)

/-- 'spoollaw03.AnglePlays', WHERE WHAT IT READS IS OF BULK AT MOST 1048576: true; the input reads as it did. -/
def anglePlaysUptoRow : OpenClaim := { program := "ythghbpghmbkjmaa", sum := "df803d9e1e676f3cceb9c8dafcc5a983fafcc7635c8213df7759d6b26faa8a5d", func := "spool/spoollaw03.AnglePlays", spec := "anglePlays", apart := false, narrowed := true }
def AnglePlaysUptoSaid : Prop := anglePlaysUptoRow.holds Try.pinned (OpenSpec.upto anglePlaysSpec)

/-- 'spoollaw03.AngleWindow', WHERE WHAT IT READS IS OF BULK AT MOST 1048576: true; the input reads as it did. -/
def angleWindowUptoRow : OpenClaim := { program := "ythghbpghmbkjmaa", sum := "df803d9e1e676f3cceb9c8dafcc5a983fafcc7635c8213df7759d6b26faa8a5d", func := "spool/spoollaw03.AngleWindow", spec := "angleWindow", apart := false, narrowed := true }
def AngleWindowUptoSaid : Prop := angleWindowUptoRow.holds Try.pinned (OpenSpec.upto angleWindowSpec)

/-- 'spoollaw03.AngleTwice', WHERE WHAT IT READS IS OF BULK AT MOST 1048576: true; the input reads as it did. -/
def angleTwiceUptoRow : OpenClaim := { program := "ythghbpghmbkjmaa", sum := "df803d9e1e676f3cceb9c8dafcc5a983fafcc7635c8213df7759d6b26faa8a5d", func := "spool/spoollaw03.AngleTwice", spec := "angleTwice", apart := false, narrowed := true }
def AngleTwiceUptoSaid : Prop := angleTwiceUptoRow.holds Try.pinned (OpenSpec.upto angleTwiceSpec)

end Rows
end Go.Proofs.Ythghbpghmbkjmaa
