/-
  No cell of these rows narrows 'for every input' (looked for: loops, veiled, ifaces, maps, wideKeys, modest, calm, conditions, laid).
  DERIVED. THE GIVEN ROWS OF THIS SEAT. 5 by the template 'for every input the law returns true; each argument reads behind the call as it read before'; 0 by the template 'total and deterministic' (their statements: YtppjapbbofepmaaTotals.lean).
  GIVEN WITH THE SEED: the statements are not yours to turn. If you find one false, say at which input.
  Laid BY PROGRAM, IN A SANDBOX (cutbox-rows.mjs): the forced cells as the released guide's own fill.sh prints them over the translation 33a0307b1d020c24… (all of the seat's roots in one cut). By AI agents, Wed Nov 11 2026. No macro, syntax, notation, axiom, sorry.
-/
import Derived.Test.YtppjapbbofepmaaChecked
import GoSem.Claim
import GoSem.ClaimJoined
import GoSem.ClaimMapViews
import Derived.JoinedTies
import Derived.KernelRfl
namespace Go.Proofs.Ytppjapbbofepmaa
/- THE CELL 'sum', in the pinned program and in every row, IS THE sha256 OF THE DUMP (.gsa) THAT YtppjapbbofepmaaProg.lean LOADS. Nothing in Lean hashes anything: it is a label: what it is worth is what the hold of that sum in a sandbox is worth. -/
noncomputable def Try.pinned : Pinned := { name := "ytppjapbbofepmaa", sum := "33a0307b1d020c240817ff2f62bd72c682f524308be5588724396e7195d291bc", checked := Try.checked }
namespace Rows
def none {H : Type} : Left H := { results := [], args := [] }

/-- 'spoollaw05.TiltBack': WHATEVER THE INPUT: true; the input reads as it did. -/
def tiltBackSpec : ChangeSpec := { name := "tiltBack", fn := fun _ => fun
  | [d1, d2] => { results := [.lit (.bool true)], args := [d1, d2] }
  | _ => none }
def tiltBackRow : OpenClaim := { program := "ytppjapbbofepmaa", sum := "33a0307b1d020c240817ff2f62bd72c682f524308be5588724396e7195d291bc", func := "spool/spoollaw05.TiltBack", spec := "tiltBack", unfollowed := true, recurses := true, apart := false }
def TiltBackSaid : Prop := tiltBackRow.holds Try.pinned (OpenSpec.ofChange tiltBackSpec)

/-- ITS FALSE NEIGHBOUR: 'it returns false'. Refute it at one input. -/
def tiltBackWrong : ChangeSpec := { name := "tiltBack", fn := fun _ => fun
  | [d1, d2] => { results := [.lit (.bool false)], args := [d1, d2] }
  | _ => none }
def TiltBackWrongFalsely : Prop := tiltBackRow.holds Try.pinned (OpenSpec.ofChange tiltBackWrong)

/-- 'spoollaw05.TiltParts': WHATEVER THE INPUT: true; the input reads as it did. -/
def tiltPartsSpec : ChangeSpec := { name := "tiltParts", fn := fun _ => fun
  | [d1, d2, d3] => { results := [.lit (.bool true)], args := [d1, d2, d3] }
  | _ => none }
def tiltPartsRow : OpenClaim := { program := "ytppjapbbofepmaa", sum := "33a0307b1d020c240817ff2f62bd72c682f524308be5588724396e7195d291bc", func := "spool/spoollaw05.TiltParts", spec := "tiltParts", unfollowed := true, recurses := true, apart := false }
def TiltPartsSaid : Prop := tiltPartsRow.holds Try.pinned (OpenSpec.ofChange tiltPartsSpec)

/-- ITS FALSE NEIGHBOUR: 'it returns false'. Refute it at one input. -/
def tiltPartsWrong : ChangeSpec := { name := "tiltParts", fn := fun _ => fun
  | [d1, d2, d3] => { results := [.lit (.bool false)], args := [d1, d2, d3] }
  | _ => none }
def TiltPartsWrongFalsely : Prop := tiltPartsRow.holds Try.pinned (OpenSpec.ofChange tiltPartsWrong)

/-- 'spoollaw05.TiltPlays': WHATEVER THE INPUT: true; the input reads as it did. -/
def tiltPlaysSpec : ChangeSpec := { name := "tiltPlays", fn := fun _ => fun
  | [d1, d2] => { results := [.lit (.bool true)], args := [d1, d2] }
  | _ => none }
def tiltPlaysRow : OpenClaim := { program := "ytppjapbbofepmaa", sum := "33a0307b1d020c240817ff2f62bd72c682f524308be5588724396e7195d291bc", func := "spool/spoollaw05.TiltPlays", spec := "tiltPlays", unfollowed := true, recurses := true, apart := false }
def TiltPlaysSaid : Prop := tiltPlaysRow.holds Try.pinned (OpenSpec.ofChange tiltPlaysSpec)

/-- ITS FALSE NEIGHBOUR: 'it returns false'. Refute it at one input. -/
def tiltPlaysWrong : ChangeSpec := { name := "tiltPlays", fn := fun _ => fun
  | [d1, d2] => { results := [.lit (.bool false)], args := [d1, d2] }
  | _ => none }
def TiltPlaysWrongFalsely : Prop := tiltPlaysRow.holds Try.pinned (OpenSpec.ofChange tiltPlaysWrong)

/-- 'spoollaw05.TiltDies': WHATEVER THE INPUT: true; the input reads as it did. -/
def tiltDiesSpec : ChangeSpec := { name := "tiltDies", fn := fun _ => fun
  | [d] => { results := [.lit (.bool true)], args := [d] }
  | _ => none }
def tiltDiesRow : OpenClaim := { program := "ytppjapbbofepmaa", sum := "33a0307b1d020c240817ff2f62bd72c682f524308be5588724396e7195d291bc", func := "spool/spoollaw05.TiltDies", spec := "tiltDies", unfollowed := true, recurses := true, apart := false }
def TiltDiesSaid : Prop := tiltDiesRow.holds Try.pinned (OpenSpec.ofChange tiltDiesSpec)

/-- ITS FALSE NEIGHBOUR: 'it returns false'. Refute it at one input. -/
def tiltDiesWrong : ChangeSpec := { name := "tiltDies", fn := fun _ => fun
  | [d] => { results := [.lit (.bool false)], args := [d] }
  | _ => none }
def TiltDiesWrongFalsely : Prop := tiltDiesRow.holds Try.pinned (OpenSpec.ofChange tiltDiesWrong)

/-- 'spoollaw05.TiltSounds': WHATEVER THE INPUT: true; the input reads as it did. -/
def tiltSoundsSpec : ChangeSpec := { name := "tiltSounds", fn := fun _ => fun
  | [d] => { results := [.lit (.bool true)], args := [d] }
  | _ => none }
def tiltSoundsRow : OpenClaim := { program := "ytppjapbbofepmaa", sum := "33a0307b1d020c240817ff2f62bd72c682f524308be5588724396e7195d291bc", func := "spool/spoollaw05.TiltSounds", spec := "tiltSounds", unfollowed := true, recurses := true, apart := false }
def TiltSoundsSaid : Prop := tiltSoundsRow.holds Try.pinned (OpenSpec.ofChange tiltSoundsSpec)

/-- ITS FALSE NEIGHBOUR: 'it returns false'. Refute it at one input. -/
def tiltSoundsWrong : ChangeSpec := { name := "tiltSounds", fn := fun _ => fun
  | [d] => { results := [.lit (.bool false)], args := [d] }
  | _ => none }
def TiltSoundsWrongFalsely : Prop := tiltSoundsRow.holds Try.pinned (OpenSpec.ofChange tiltSoundsWrong)

/- THE SECOND FORM. 'bulk': how many values and letters a reading holds, each counted each time it is reached (what is shared counts as often as it is met; a slice's spare places count too). A statement '..UptoSaid' is the law's where the arguments, and the package variables that the reading takes, are together of bulk at most 1048576: NARROWER than '..Said'. Prove '..Said' where nothing that the law and all that it calls make is longer than what came in: it says more and counts as full. Else prove '..UptoSaid'. A law counts once. -/
mutual
def uptoBulk {H : Type} : DataW H → Nat
  | .lit (.string bytes) => bytes.length + 1
  | .lit _ => 1
  | .nil => 1
  | .ptr d => uptoBulk d + 1
  | .slice elems spare => uptoBulkAll elems + uptoBulkAll spare + 1
  | .agg parts => uptoBulkAll parts + 1
  | .iface _ d => uptoBulk d + 1
  | .map entries => uptoBulkEntries entries + 1
  | .held _ => 1
def uptoBulkAll {H : Type} : List (DataW H) → Nat
  | [] => 0
  | d :: r => uptoBulk d + uptoBulkAll r
def uptoBulkEntries {H : Type} : List (Lit × DataW H) → Nat
  | [] => 0
  | x :: r => uptoBulkEntry x + uptoBulkEntries r
def uptoBulkEntry {H : Type} : Lit × DataW H → Nat
  | (.string bytes, d) => bytes.length + uptoBulk d + 1
  | (_, d) => uptoBulk d + 1
 end
def uptoSmall : (H : Type) → List (DataW H) → Bool := fun _ ds => decide (uptoBulkAll ds ≤ 1048576)
def OpenSpec.upto (s : _root_.Go.ChangeSpec) : _root_.Go.OpenSpec := { _root_.Go.OpenSpec.ofChange s with cond := some uptoSmall }

/-- 'spoollaw05.TiltBack', WHERE WHAT IT READS IS OF BULK AT MOST 1048576: true; the input reads as it did. -/
def tiltBackUptoRow : OpenClaim := { program := "ytppjapbbofepmaa", sum := "33a0307b1d020c240817ff2f62bd72c682f524308be5588724396e7195d291bc", func := "spool/spoollaw05.TiltBack", spec := "tiltBack", unfollowed := true, recurses := true, apart := false, narrowed := true }
def TiltBackUptoSaid : Prop := tiltBackUptoRow.holds Try.pinned (OpenSpec.upto tiltBackSpec)

/-- 'spoollaw05.TiltParts', WHERE WHAT IT READS IS OF BULK AT MOST 1048576: true; the input reads as it did. -/
def tiltPartsUptoRow : OpenClaim := { program := "ytppjapbbofepmaa", sum := "33a0307b1d020c240817ff2f62bd72c682f524308be5588724396e7195d291bc", func := "spool/spoollaw05.TiltParts", spec := "tiltParts", unfollowed := true, recurses := true, apart := false, narrowed := true }
def TiltPartsUptoSaid : Prop := tiltPartsUptoRow.holds Try.pinned (OpenSpec.upto tiltPartsSpec)

/-- 'spoollaw05.TiltPlays', WHERE WHAT IT READS IS OF BULK AT MOST 1048576: true; the input reads as it did. -/
def tiltPlaysUptoRow : OpenClaim := { program := "ytppjapbbofepmaa", sum := "33a0307b1d020c240817ff2f62bd72c682f524308be5588724396e7195d291bc", func := "spool/spoollaw05.TiltPlays", spec := "tiltPlays", unfollowed := true, recurses := true, apart := false, narrowed := true }
def TiltPlaysUptoSaid : Prop := tiltPlaysUptoRow.holds Try.pinned (OpenSpec.upto tiltPlaysSpec)

/-- 'spoollaw05.TiltDies', WHERE WHAT IT READS IS OF BULK AT MOST 1048576: true; the input reads as it did. -/
def tiltDiesUptoRow : OpenClaim := { program := "ytppjapbbofepmaa", sum := "33a0307b1d020c240817ff2f62bd72c682f524308be5588724396e7195d291bc", func := "spool/spoollaw05.TiltDies", spec := "tiltDies", unfollowed := true, recurses := true, apart := false, narrowed := true }
def TiltDiesUptoSaid : Prop := tiltDiesUptoRow.holds Try.pinned (OpenSpec.upto tiltDiesSpec)

/-- 'spoollaw05.TiltSounds', WHERE WHAT IT READS IS OF BULK AT MOST 1048576: true; the input reads as it did. -/
def tiltSoundsUptoRow : OpenClaim := { program := "ytppjapbbofepmaa", sum := "33a0307b1d020c240817ff2f62bd72c682f524308be5588724396e7195d291bc", func := "spool/spoollaw05.TiltSounds", spec := "tiltSounds", unfollowed := true, recurses := true, apart := false, narrowed := true }
def TiltSoundsUptoSaid : Prop := tiltSoundsUptoRow.holds Try.pinned (OpenSpec.upto tiltSoundsSpec)

end Rows
end Go.Proofs.Ytppjapbbofepmaa
