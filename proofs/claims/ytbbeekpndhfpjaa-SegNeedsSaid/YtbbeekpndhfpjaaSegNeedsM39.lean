/- Texts of the walk, one behind the other. -/
import Derived.Test.YtbbeekpndhfpjaaSegNeedsM15
import Derived.Test.YtbbeekpndhfpjaaSegNeedsM16
import Derived.Test.YtbbeekpndhfpjaaSegNeedsM38

section
/- SegNeeds on the program that landed. -/
set_option maxRecDepth 100000
set_option linter.unusedVariables false
namespace Go.Proofs.Ytbbeekpndhfpjaa.Sg
open Go.RowKit Go.Proofs.Ytbbeekpndhfpjaa.Row Go.Proofs.Ytbbeekpndhfpjaa.Pa Go.Proofs.Ytbbeekpndhfpjaa.Fg Go.Proofs.Ytbbeekpndhfpjaa.Dk
theorem in_u16 {n : Int} (h : (Lit.int .u16 n).wf = true) : ∃ k : Nat, n = (k : Int) ∧ k < 65536 := by
  have := bounds_u16 h
  exact ⟨n.toNat, by omega, by omega⟩
theorem seg_needs {a0 a1 a2 : Int} (w0 : (Lit.int .u16 a0).wf = true) (w1 : (Lit.int .u16 a1).wf = true) (w2 : (Lit.int .u16 a2).wf = true) (W : World) :
    Calls Try.prog 5 #[.int .u16 a0, .int .u16 a1, .int .u16 a2] W fun e w' => e = .returned (.bool true) ∧ Below W.heap.size W w' := by
  obtain ⟨k, rfl, hk⟩ := in_u16 w0
  obtain ⟨l, rfl, hl⟩ := in_u16 w1
  obtain ⟨m, rfl, hm⟩ := in_u16 w2
  exact needs_all scan_as segs needAs k l m W hk hl hm
end Go.Proofs.Ytbbeekpndhfpjaa.Sg
end
