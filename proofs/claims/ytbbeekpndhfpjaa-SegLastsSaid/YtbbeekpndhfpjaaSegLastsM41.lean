/- Texts of the walk, one behind the other. -/
import Derived.Test.YtbbeekpndhfpjaaSegLastsM17
import Derived.Test.YtbbeekpndhfpjaaSegLastsM18
import Derived.Test.YtbbeekpndhfpjaaSegLastsM40

section
/- SegLasts on the program that landed. -/
set_option maxRecDepth 100000
set_option linter.unusedVariables false
namespace Go.Proofs.Ytbbeekpndhfpjaa.Sg
open Go.RowKit Go.Proofs.Ytbbeekpndhfpjaa.Row Go.Proofs.Ytbbeekpndhfpjaa.Pa Go.Proofs.Ytbbeekpndhfpjaa.Fg Go.Proofs.Ytbbeekpndhfpjaa.Dk
theorem seg_lasts {a0 : Int} (w0 : (Lit.int .u8 a0).wf = true) {W : World} {a1 : Option Addr} {n1 c1 : Nat} {F1 : Nat → Ac9} (s1 : SlA9 W a1 n1 c1 F1) :
    Calls Try.prog 3 #[.int .u8 a0, .slice a1 n1 c1] W fun e w' => e = .returned (.bool true) ∧ Below W.heap.size W w' := by
  obtain ⟨k, rfl, hk⟩ := in_u8 w0
  exact lasts_few scan_as segs k a1 n1 c1 F1 W s1 hk
end Go.Proofs.Ytbbeekpndhfpjaa.Sg
end
