/- Texts of the walk, one behind the other. -/
import Derived.Test.YtbbeekpndhfpjaaSegFrozenM16
import Derived.Test.YtbbeekpndhfpjaaSegFrozenM17
import Derived.Test.YtbbeekpndhfpjaaSegFrozenM38

section
/- SegFrozen on the program that landed. -/
set_option maxRecDepth 100000
set_option linter.unusedVariables false
namespace Go.Proofs.Ytbbeekpndhfpjaa.Sg
open Go.RowKit Go.Proofs.Ytbbeekpndhfpjaa.Row Go.Proofs.Ytbbeekpndhfpjaa.Pa Go.Proofs.Ytbbeekpndhfpjaa.Fg Go.Proofs.Ytbbeekpndhfpjaa.Dk
theorem seg_frozen {W : World} {a0 : Option Addr} {n0 c0 : Nat} {F0 : Nat → Ac9} (s0 : SlA9 W a0 n0 c0 F0) {a1 : Int} (w1 : (Lit.int .u8 a1).wf = true) :
    Calls Try.prog 4 #[.slice a0 n0 c0, .int .u8 a1] W fun e w' => e = .returned (.bool true) ∧ Below W.heap.size W w' := by
  obtain ⟨k, rfl, hk⟩ := in_u8 w1
  exact frozen_few scan_as segs a0 n0 c0 F0 k W s0 hk
end Go.Proofs.Ytbbeekpndhfpjaa.Sg
end
