/-
  No cell of these rows narrows 'for every input' (looked for: loops, veiled, ifaces, maps, wideKeys, modest, calm, conditions, laid).
  DERIVED. THE GIVEN ROWS OF THIS SEAT. 5 by the template 'for every input the law returns true; each argument reads behind the call as it read before'; 0 by the template 'total and deterministic' (their statements: YtmaelcjmojhlpaaTotals.lean).
  GIVEN WITH THE SEED: the statements are not yours to turn. If you find one false, say at which input.
  Laid BY PROGRAM, IN A SANDBOX (cutbox-rows.mjs): the forced cells as the released guide's own fill.sh prints them over the translation f854aca2e54bf684… (all of the seat's roots in one cut). By AI agents, Wed Nov 11 2026. No macro, syntax, notation, axiom, sorry.
-/
import Derived.Test.YtmaelcjmojhlpaaChecked
import GoSem.Claim
import GoSem.ClaimJoined
import GoSem.ClaimMapViews
import Derived.JoinedTies
import Derived.KernelRfl
namespace Go.Proofs.Ytmaelcjmojhlpaa
/- THE CELL 'sum', in the pinned program and in every row, IS THE sha256 OF THE DUMP (.gsa) THAT YtmaelcjmojhlpaaProg.lean LOADS. Nothing in Lean hashes anything: it is a label: what it is worth is what the hold of that sum in a sandbox is worth. -/
noncomputable def Try.pinned : Pinned := { name := "ytmaelcjmojhlpaa", sum := "f854aca2e54bf684961a58f54f2b8e133421e8d8f61b545847a888c62cea89c9", checked := Try.checked }
namespace Rows
def none {H : Type} : Left H := { results := [], args := [] }

/-- 'spoollaw18.FragBack': WHATEVER THE INPUT: true; the input reads as it did. -/
def fragBackSpec : ChangeSpec := { name := "fragBack", fn := fun _ => fun
  | [d1, d2, d3] => { results := [.lit (.bool true)], args := [d1, d2, d3] }
  | _ => none }
def fragBackRow : OpenClaim := { program := "ytmaelcjmojhlpaa", sum := "f854aca2e54bf684961a58f54f2b8e133421e8d8f61b545847a888c62cea89c9", func := "spool/spoollaw18.FragBack", spec := "fragBack", unfollowed := true, recurses := true, apart := false }
def FragBackSaid : Prop := fragBackRow.holds Try.pinned (OpenSpec.ofChange fragBackSpec)

/-- ITS FALSE NEIGHBOUR: 'it returns false'. Refute it at one input. -/
def fragBackWrong : ChangeSpec := { name := "fragBack", fn := fun _ => fun
  | [d1, d2, d3] => { results := [.lit (.bool false)], args := [d1, d2, d3] }
  | _ => none }
def FragBackWrongFalsely : Prop := fragBackRow.holds Try.pinned (OpenSpec.ofChange fragBackWrong)

/-- 'spoollaw18.FragEpochs': WHATEVER THE INPUT: true; the input reads as it did. -/
def fragEpochsSpec : ChangeSpec := { name := "fragEpochs", fn := fun _ => fun
  | [d1, d2, d3, d4, d5] => { results := [.lit (.bool true)], args := [d1, d2, d3, d4, d5] }
  | _ => none }
def fragEpochsRow : OpenClaim := { program := "ytmaelcjmojhlpaa", sum := "f854aca2e54bf684961a58f54f2b8e133421e8d8f61b545847a888c62cea89c9", func := "spool/spoollaw18.FragEpochs", spec := "fragEpochs", unfollowed := true, recurses := true, apart := false }
def FragEpochsSaid : Prop := fragEpochsRow.holds Try.pinned (OpenSpec.ofChange fragEpochsSpec)

/-- ITS FALSE NEIGHBOUR: 'it returns false'. Refute it at one input. -/
def fragEpochsWrong : ChangeSpec := { name := "fragEpochs", fn := fun _ => fun
  | [d1, d2, d3, d4, d5] => { results := [.lit (.bool false)], args := [d1, d2, d3, d4, d5] }
  | _ => none }
def FragEpochsWrongFalsely : Prop := fragEpochsRow.holds Try.pinned (OpenSpec.ofChange fragEpochsWrong)

/-- 'spoollaw18.FragPlays': WHATEVER THE INPUT: true; the input reads as it did. -/
def fragPlaysSpec : ChangeSpec := { name := "fragPlays", fn := fun _ => fun
  | [d1, d2] => { results := [.lit (.bool true)], args := [d1, d2] }
  | _ => none }
def fragPlaysRow : OpenClaim := { program := "ytmaelcjmojhlpaa", sum := "f854aca2e54bf684961a58f54f2b8e133421e8d8f61b545847a888c62cea89c9", func := "spool/spoollaw18.FragPlays", spec := "fragPlays", unfollowed := true, recurses := true, apart := false }
def FragPlaysSaid : Prop := fragPlaysRow.holds Try.pinned (OpenSpec.ofChange fragPlaysSpec)

/-- ITS FALSE NEIGHBOUR: 'it returns false'. Refute it at one input. -/
def fragPlaysWrong : ChangeSpec := { name := "fragPlays", fn := fun _ => fun
  | [d1, d2] => { results := [.lit (.bool false)], args := [d1, d2] }
  | _ => none }
def FragPlaysWrongFalsely : Prop := fragPlaysRow.holds Try.pinned (OpenSpec.ofChange fragPlaysWrong)

/-- 'spoollaw18.FragRow': WHATEVER THE INPUT: true; the input reads as it did. -/
def fragRowSpec : ChangeSpec := { name := "fragRow", fn := fun _ => fun
  | [d1, d2] => { results := [.lit (.bool true)], args := [d1, d2] }
  | _ => none }
def fragRowRow : OpenClaim := { program := "ytmaelcjmojhlpaa", sum := "f854aca2e54bf684961a58f54f2b8e133421e8d8f61b545847a888c62cea89c9", func := "spool/spoollaw18.FragRow", spec := "fragRow", unfollowed := true, recurses := true, apart := false }
def FragRowSaid : Prop := fragRowRow.holds Try.pinned (OpenSpec.ofChange fragRowSpec)

/-- ITS FALSE NEIGHBOUR: 'it returns false'. Refute it at one input. -/
def fragRowWrong : ChangeSpec := { name := "fragRow", fn := fun _ => fun
  | [d1, d2] => { results := [.lit (.bool false)], args := [d1, d2] }
  | _ => none }
def FragRowWrongFalsely : Prop := fragRowRow.holds Try.pinned (OpenSpec.ofChange fragRowWrong)

/-- 'spoollaw18.FragLong': WHATEVER THE INPUT: true; the input reads as it did. -/
def fragLongSpec : ChangeSpec := { name := "fragLong", fn := fun _ => fun
  | [d1, d2] => { results := [.lit (.bool true)], args := [d1, d2] }
  | _ => none }
def fragLongRow : OpenClaim := { program := "ytmaelcjmojhlpaa", sum := "f854aca2e54bf684961a58f54f2b8e133421e8d8f61b545847a888c62cea89c9", func := "spool/spoollaw18.FragLong", spec := "fragLong", unfollowed := true, recurses := true, apart := false }
def FragLongSaid : Prop := fragLongRow.holds Try.pinned (OpenSpec.ofChange fragLongSpec)

/-- ITS FALSE NEIGHBOUR: 'it returns false'. Refute it at one input. -/
def fragLongWrong : ChangeSpec := { name := "fragLong", fn := fun _ => fun
  | [d1, d2] => { results := [.lit (.bool false)], args := [d1, d2] }
  | _ => none }
def FragLongWrongFalsely : Prop := fragLongRow.holds Try.pinned (OpenSpec.ofChange fragLongWrong)

/- THE SECOND FORM. 'bulk': how many values and letters a reading holds, each counted each time it is reached (what is shared counts as often as it is met; a slice's spare places count too). A statement '..UptoSaid' is the law's where the arguments, and the package variables that the reading takes, are together of bulk at most 1048576: NARROWER than '..Said'. Prove '..Said' where nothing that the law and all that it calls make is longer than what came in: it says more and counts as full. Else prove '..UptoSaid'. A law counts once. -/
mutual
def uptoBulk {H : Type} : DataW H → Nat
  | .lit (.string bytes) => bytes.length + 1
  | .lit _ => 1
  | .nil => 1
  | .ptr d => uptoBulk d + 1
  | .slice elems spare => uptoBulkAll elems + uptoBulkAll spare + 1
  | .agg parts => uptoBulkAll parts + 1
  | .iface _ d => uptoBulk d + 1
  | .map entries => uptoBulkEntries entries + 1
  | .held _ => 1
def uptoBulkAll {H : Type} : List (DataW H) → Nat
  | [] => 0
  | d :: r => uptoBulk d + uptoBulkAll r
def uptoBulkEntries {H : Type} : List (Lit × DataW H) → Nat
  | [] => 0
  | x :: r => uptoBulkEntry x + uptoBulkEntries r
def uptoBulkEntry {H : Type} : Lit × DataW H → Nat
  | (.string bytes, d) => bytes.length + uptoBulk d + 1
  | (_, d) => uptoBulk d + 1
 end
def uptoSmall : (H : Type) → List (DataW H) → Bool := fun _ ds => decide (uptoBulkAll ds ≤ 1048576)
def OpenSpec.upto (s : _root_.Go.ChangeSpec) : _root_.Go.OpenSpec := { _root_.Go.OpenSpec.ofChange s with cond := some uptoSmall }

/-- 'spoollaw18.FragBack', WHERE WHAT IT READS IS OF BULK AT MOST 1048576: true; the input reads as it did. -/
def fragBackUptoRow : OpenClaim := { program := "ytmaelcjmojhlpaa", sum := "f854aca2e54bf684961a58f54f2b8e133421e8d8f61b545847a888c62cea89c9", func := "spool/spoollaw18.FragBack", spec := "fragBack", unfollowed := true, recurses := true, apart := false, narrowed := true }
def FragBackUptoSaid : Prop := fragBackUptoRow.holds Try.pinned (OpenSpec.upto fragBackSpec)

/-- 'spoollaw18.FragEpochs', WHERE WHAT IT READS IS OF BULK AT MOST 1048576: true; the input reads as it did. -/
def fragEpochsUptoRow : OpenClaim := { program := "ytmaelcjmojhlpaa", sum := "f854aca2e54bf684961a58f54f2b8e133421e8d8f61b545847a888c62cea89c9", func := "spool/spoollaw18.FragEpochs", spec := "fragEpochs", unfollowed := true, recurses := true, apart := false, narrowed := true }
def FragEpochsUptoSaid : Prop := fragEpochsUptoRow.holds Try.pinned (OpenSpec.upto fragEpochsSpec)

/-- 'spoollaw18.FragPlays', WHERE WHAT IT READS IS OF BULK AT MOST 1048576: true; the input reads as it did. -/
def fragPlaysUptoRow : OpenClaim := { program := "ytmaelcjmojhlpaa", sum := "f854aca2e54bf684961a58f54f2b8e133421e8d8f61b545847a888c62cea89c9", func := "spool/spoollaw18.FragPlays", spec := "fragPlays", unfollowed := true, recurses := true, apart := false, narrowed := true }
def FragPlaysUptoSaid : Prop := fragPlaysUptoRow.holds Try.pinned (OpenSpec.upto fragPlaysSpec)

/-- 'spoollaw18.FragRow', WHERE WHAT IT READS IS OF BULK AT MOST 1048576: true; the input reads as it did. -/
def fragRowUptoRow : OpenClaim := { program := "ytmaelcjmojhlpaa", sum := "f854aca2e54bf684961a58f54f2b8e133421e8d8f61b545847a888c62cea89c9", func := "spool/spoollaw18.FragRow", spec := "fragRow", unfollowed := true, recurses := true, apart := false, narrowed := true }
def FragRowUptoSaid : Prop := fragRowUptoRow.holds Try.pinned (OpenSpec.upto fragRowSpec)

/-- 'spoollaw18.FragLong', WHERE WHAT IT READS IS OF BULK AT MOST 1048576: true; the input reads as it did. -/
def fragLongUptoRow : OpenClaim := { program := "ytmaelcjmojhlpaa", sum := "f854aca2e54bf684961a58f54f2b8e133421e8d8f61b545847a888c62cea89c9", func := "spool/spoollaw18.FragLong", spec := "fragLong", unfollowed := true, recurses := true, apart := false, narrowed := true }
def FragLongUptoSaid : Prop := fragLongUptoRow.holds Try.pinned (OpenSpec.upto fragLongSpec)

end Rows
end Go.Proofs.Ytmaelcjmojhlpaa
