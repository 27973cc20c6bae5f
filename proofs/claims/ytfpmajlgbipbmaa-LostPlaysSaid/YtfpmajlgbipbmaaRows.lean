/-
  No cell of these rows narrows 'for every input' (looked for: loops, veiled, ifaces, maps, wideKeys, modest, calm, conditions, laid).
  DERIVED. THE GIVEN ROWS OF THIS SEAT. 5 by the template 'for every input the law returns true; each argument reads behind the call as it read before'; 0 by the template 'total and deterministic' (their statements: YtfpmajlgbipbmaaTotals.lean).
  GIVEN WITH THE SEED: the statements are not yours to turn. If you find one false, say at which input.
  Laid BY PROGRAM, IN A SANDBOX (cutbox-rows.mjs): the forced cells as the released guide's own fill.sh prints them over the translation fb8c6b04bdf2a27e… (all of the seat's roots in one cut). By AI agents, Wed Nov 11 2026. No macro, syntax, notation, axiom, sorry.
-/
import Derived.Test.YtfpmajlgbipbmaaChecked
import GoSem.Claim
import GoSem.ClaimJoined
import GoSem.ClaimMapViews
import Derived.JoinedTies
import Derived.KernelRfl
namespace Go.Proofs.Ytfpmajlgbipbmaa
/- THE CELL 'sum', in the pinned program and in every row, IS THE sha256 OF THE DUMP (.gsa) THAT YtfpmajlgbipbmaaProg.lean LOADS. Nothing in Lean hashes anything: it is a label: what it is worth is what the hold of that sum in a sandbox is worth. -/
noncomputable def Try.pinned : Pinned := { name := "ytfpmajlgbipbmaa", sum := "fb8c6b04bdf2a27ee24526c861595192d50804668bca4046a55f05a67286bcce", checked := Try.checked }
namespace Rows
def none {H : Type} : Left H := { results := [], args := [] }

/-- 'spoollaw14.LostDies': WHATEVER THE INPUT: true; the input reads as it did. -/
def lostDiesSpec : ChangeSpec := { name := "lostDies", fn := fun _ => fun
  | [d1, d2] => { results := [.lit (.bool true)], args := [d1, d2] }
  | _ => none }
def lostDiesRow : OpenClaim := { program := "ytfpmajlgbipbmaa", sum := "fb8c6b04bdf2a27ee24526c861595192d50804668bca4046a55f05a67286bcce", func := "spool/spoollaw14.LostDies", spec := "lostDies", unfollowed := true, recurses := true, apart := false }
def LostDiesSaid : Prop := lostDiesRow.holds Try.pinned (OpenSpec.ofChange lostDiesSpec)

/-- ITS FALSE NEIGHBOUR: 'it returns false'. Refute it at one input. -/
def lostDiesWrong : ChangeSpec := { name := "lostDies", fn := fun _ => fun
  | [d1, d2] => { results := [.lit (.bool false)], args := [d1, d2] }
  | _ => none }
def LostDiesWrongFalsely : Prop := lostDiesRow.holds Try.pinned (OpenSpec.ofChange lostDiesWrong)

/-- 'spoollaw14.LostRuns': WHATEVER THE INPUT: true; the input reads as it did. -/
def lostRunsSpec : ChangeSpec := { name := "lostRuns", fn := fun _ => fun
  | [d1, d2, d3] => { results := [.lit (.bool true)], args := [d1, d2, d3] }
  | _ => none }
def lostRunsRow : OpenClaim := { program := "ytfpmajlgbipbmaa", sum := "fb8c6b04bdf2a27ee24526c861595192d50804668bca4046a55f05a67286bcce", func := "spool/spoollaw14.LostRuns", spec := "lostRuns", unfollowed := true, recurses := true, apart := false }
def LostRunsSaid : Prop := lostRunsRow.holds Try.pinned (OpenSpec.ofChange lostRunsSpec)

/-- ITS FALSE NEIGHBOUR: 'it returns false'. Refute it at one input. -/
def lostRunsWrong : ChangeSpec := { name := "lostRuns", fn := fun _ => fun
  | [d1, d2, d3] => { results := [.lit (.bool false)], args := [d1, d2, d3] }
  | _ => none }
def LostRunsWrongFalsely : Prop := lostRunsRow.holds Try.pinned (OpenSpec.ofChange lostRunsWrong)

/-- 'spoollaw14.LostPlays': WHATEVER THE INPUT: true; the input reads as it did. -/
def lostPlaysSpec : ChangeSpec := { name := "lostPlays", fn := fun _ => fun
  | [d] => { results := [.lit (.bool true)], args := [d] }
  | _ => none }
def lostPlaysRow : OpenClaim := { program := "ytfpmajlgbipbmaa", sum := "fb8c6b04bdf2a27ee24526c861595192d50804668bca4046a55f05a67286bcce", func := "spool/spoollaw14.LostPlays", spec := "lostPlays", unfollowed := true, recurses := true, apart := false }
def LostPlaysSaid : Prop := lostPlaysRow.holds Try.pinned (OpenSpec.ofChange lostPlaysSpec)

/-- ITS FALSE NEIGHBOUR: 'it returns false'. Refute it at one input. -/
def lostPlaysWrong : ChangeSpec := { name := "lostPlays", fn := fun _ => fun
  | [d] => { results := [.lit (.bool false)], args := [d] }
  | _ => none }
def LostPlaysWrongFalsely : Prop := lostPlaysRow.holds Try.pinned (OpenSpec.ofChange lostPlaysWrong)

/-- 'spoollaw14.LostHalves': WHATEVER THE INPUT: true; the input reads as it did. -/
def lostHalvesSpec : ChangeSpec := { name := "lostHalves", fn := fun _ => fun
  | [d1, d2] => { results := [.lit (.bool true)], args := [d1, d2] }
  | _ => none }
def lostHalvesRow : OpenClaim := { program := "ytfpmajlgbipbmaa", sum := "fb8c6b04bdf2a27ee24526c861595192d50804668bca4046a55f05a67286bcce", func := "spool/spoollaw14.LostHalves", spec := "lostHalves", unfollowed := true, recurses := true, apart := false }
def LostHalvesSaid : Prop := lostHalvesRow.holds Try.pinned (OpenSpec.ofChange lostHalvesSpec)

/-- ITS FALSE NEIGHBOUR: 'it returns false'. Refute it at one input. -/
def lostHalvesWrong : ChangeSpec := { name := "lostHalves", fn := fun _ => fun
  | [d1, d2] => { results := [.lit (.bool false)], args := [d1, d2] }
  | _ => none }
def LostHalvesWrongFalsely : Prop := lostHalvesRow.holds Try.pinned (OpenSpec.ofChange lostHalvesWrong)

/-- 'spoollaw14.LostGaps': WHATEVER THE INPUT: true; the input reads as it did. -/
def lostGapsSpec : ChangeSpec := { name := "lostGaps", fn := fun _ => fun
  | [d1, d2] => { results := [.lit (.bool true)], args := [d1, d2] }
  | _ => none }
def lostGapsRow : OpenClaim := { program := "ytfpmajlgbipbmaa", sum := "fb8c6b04bdf2a27ee24526c861595192d50804668bca4046a55f05a67286bcce", func := "spool/spoollaw14.LostGaps", spec := "lostGaps", unfollowed := true, recurses := true, apart := false }
def LostGapsSaid : Prop := lostGapsRow.holds Try.pinned (OpenSpec.ofChange lostGapsSpec)

/-- ITS FALSE NEIGHBOUR: 'it returns false'. Refute it at one input. -/
def lostGapsWrong : ChangeSpec := { name := "lostGaps", fn := fun _ => fun
  | [d1, d2] => { results := [.lit (.bool false)], args := [d1, d2] }
  | _ => none }
def LostGapsWrongFalsely : Prop := lostGapsRow.holds Try.pinned (OpenSpec.ofChange lostGapsWrong)

/- THE SECOND FORM. 'bulk': how many values and letters a reading holds, each counted each time it is reached (what is shared counts as often as it is met; a slice's spare places count too). A statement '..UptoSaid' is the law's where the arguments, and the package variables that the reading takes, are together of bulk at most 1048576: NARROWER than '..Said'. Prove '..Said' where nothing that the law and all that it calls make is longer than what came in: it says more and counts as full. Else prove '..UptoSaid'. A law counts once. -/
mutual
def uptoBulk {H : Type} : DataW H → Nat
  | .lit (.string bytes) => bytes.length + 1
  | .lit _ => 1
  | .nil => 1
  | .ptr d => uptoBulk d + 1
  | .slice elems spare => uptoBulkAll elems + uptoBulkAll spare + 1
  | .agg parts => uptoBulkAll parts + 1
  | .iface _ d => uptoBulk d + 1
  | .map entries => uptoBulkEntries entries + 1
  | .held _ => 1
def uptoBulkAll {H : Type} : List (DataW H) → Nat
  | [] => 0
  | d :: r => uptoBulk d + uptoBulkAll r
def uptoBulkEntries {H : Type} : List (Lit × DataW H) → Nat
  | [] => 0
  | x :: r => uptoBulkEntry x + uptoBulkEntries r
def uptoBulkEntry {H : Type} : Lit × DataW H → Nat
  | (.string bytes, d) => bytes.length + uptoBulk d + 1
  | (_, d) => uptoBulk d + 1
 end
def uptoSmall : (H : Type) → List (DataW H) → Bool := fun _ ds => decide (uptoBulkAll ds ≤ 1048576)
def OpenSpec.upto (s : _root_.Go.ChangeSpec) : _root_.Go.OpenSpec := { _root_.Go.OpenSpec.ofChange s with cond := some uptoSmall }

/-- 'spoollaw14.LostDies', WHERE WHAT IT READS IS OF BULK AT MOST 1048576: true; the input reads as it did. -/
def lostDiesUptoRow : OpenClaim := { program := "ytfpmajlgbipbmaa", sum := "fb8c6b04bdf2a27ee24526c861595192d50804668bca4046a55f05a67286bcce", func := "spool/spoollaw14.LostDies", spec := "lostDies", unfollowed := true, recurses := true, apart := false, narrowed := true }
def LostDiesUptoSaid : Prop := lostDiesUptoRow.holds Try.pinned (OpenSpec.upto lostDiesSpec)

/-- 'spoollaw14.LostRuns', WHERE WHAT IT READS IS OF BULK AT MOST 1048576: true; the input reads as it did. -/
def lostRunsUptoRow : OpenClaim := { program := "ytfpmajlgbipbmaa", sum := "fb8c6b04bdf2a27ee24526c861595192d50804668bca4046a55f05a67286bcce", func := "spool/spoollaw14.LostRuns", spec := "lostRuns", unfollowed := true, recurses := true, apart := false, narrowed := true }
def LostRunsUptoSaid : Prop := lostRunsUptoRow.holds Try.pinned (OpenSpec.upto lostRunsSpec)

/-- 'spoollaw14.LostPlays', WHERE WHAT IT READS IS OF BULK AT MOST 1048576: true; the input reads as it did. -/
def lostPlaysUptoRow : OpenClaim := { program := "ytfpmajlgbipbmaa", sum := "fb8c6b04bdf2a27ee24526c861595192d50804668bca4046a55f05a67286bcce", func := "spool/spoollaw14.LostPlays", spec := "lostPlays", unfollowed := true, recurses := true, apart := false, narrowed := true }
def LostPlaysUptoSaid : Prop := lostPlaysUptoRow.holds Try.pinned (OpenSpec.upto lostPlaysSpec)

/-- 'spoollaw14.LostHalves', WHERE WHAT IT READS IS OF BULK AT MOST 1048576: true; the input reads as it did. -/
def lostHalvesUptoRow : OpenClaim := { program := "ytfpmajlgbipbmaa", sum := "fb8c6b04bdf2a27ee24526c861595192d50804668bca4046a55f05a67286bcce", func := "spool/spoollaw14.LostHalves", spec := "lostHalves", unfollowed := true, recurses := true, apart := false, narrowed := true }
def LostHalvesUptoSaid : Prop := lostHalvesUptoRow.holds Try.pinned (OpenSpec.upto lostHalvesSpec)

/-- 'spoollaw14.LostGaps', WHERE WHAT IT READS IS OF BULK AT MOST 1048576: true; the input reads as it did. -/
def lostGapsUptoRow : OpenClaim := { program := "ytfpmajlgbipbmaa", sum := "fb8c6b04bdf2a27ee24526c861595192d50804668bca4046a55f05a67286bcce", func := "spool/spoollaw14.LostGaps", spec := "lostGaps", unfollowed := true, recurses := true, apart := false, narrowed := true }
def LostGapsUptoSaid : Prop := lostGapsUptoRow.holds Try.pinned (OpenSpec.upto lostGapsSpec)

end Rows
end Go.Proofs.Ytfpmajlgbipbmaa
