/- A drawn region's condition on the world made stronger on the way (what was made in the region itself is known from then on). For every package. -/
import Derived.Test.YteahbdnnieaaaaaRowMvF
set_option linter.unusedVariables false
namespace Go.Proofs.Yteahbdnnieaaaaa.Row
open Go.RowKit

theorem wpAnyF_weaken {P : Program} {md : Region.Mode} {ops : Array Oper} {Q : Exit → Act → World → Prop} {S S' : World → Prop} {F : Nat → Bool} (h : ∀ w, S' w → S w) : ∀ (fuel : Nat) (listed : Array Bool) (a : Act) (w : World), wpAnyF P md ops Q S' F fuel listed a w → wpAnyF P md ops Q S F fuel listed a w
  | 0, _, _, _, h0 => h0
  | fuel + 1, _, _, _, h0 => ⟨h0.1, fun i hi => wpOp_mono (fun a' w' h' => ⟨fun e => h _ (h'.1 e), wpAnyF_weaken h fuel _ a' w' h'.2⟩) (h0.2 i hi)⟩
/-- From here on S'. -/
theorem mf_more {ops : Array Oper} {Q : Exit → Act → World → Prop} {S : World → Prop} {F : Nat → Bool} {fuel : Nat} {listed : Array Bool} {a : Act} {w : World} (S' : World → Prop) (h : ∀ w, S' w → S w) (h' : wpAnyF Try.prog .any ops Q S' F fuel listed a w) : wpAnyF Try.prog .any ops Q S F fuel listed a w :=
  wpAnyF_weaken h fuel listed a w h'
end Go.Proofs.Yteahbdnnieaaaaa.Row
