/- Texts of the walk, one behind the other. -/
import Derived.Test.YtbbeekpndhfpjaaSegFullM15
import Derived.Test.YtbbeekpndhfpjaaSegFullM16
import Derived.Test.YtbbeekpndhfpjaaSegFullM38

section
/- SegFull on the program that landed. -/
set_option maxRecDepth 100000
set_option linter.unusedVariables false
namespace Go.Proofs.Ytbbeekpndhfpjaa.Sg
open Go.RowKit Go.Proofs.Ytbbeekpndhfpjaa.Row Go.Proofs.Ytbbeekpndhfpjaa.Pa Go.Proofs.Ytbbeekpndhfpjaa.Fg Go.Proofs.Ytbbeekpndhfpjaa.Dk
theorem in_u16 {n : Int} (h : (Lit.int .u16 n).wf = true) : ∃ k : Nat, n = (k : Int) ∧ k < 65536 := by
  have := bounds_u16 h
  exact ⟨n.toNat, by omega, by omega⟩
theorem seg_full {a0 : Int} (w0 : (Lit.int .u16 a0).wf = true) (W : World) :
    Calls Try.prog 6 #[.int .u16 a0] W fun e w' => e = .returned (.bool true) ∧ Below W.heap.size W w' := by
  obtain ⟨k, rfl, hk⟩ := in_u16 w0
  exact full_all scan_as segs needAs k W hk
end Go.Proofs.Ytbbeekpndhfpjaa.Sg
end
