/- FragLong on the program that landed. -/
import Derived.Test.YtmaelcjmojhlpaaFgIn
import Derived.Test.YtmaelcjmojhlpaaFgC
import Derived.Test.YtmaelcjmojhlpaaFgG
import Derived.Test.YtmaelcjmojhlpaaLaw18E
set_option maxRecDepth 100000
set_option linter.unusedVariables false
namespace Go.Proofs.Ytmaelcjmojhlpaa.Fg
open Go.RowKit Go.Proofs.Ytmaelcjmojhlpaa.Row Go.Proofs.Ytmaelcjmojhlpaa.Pa
theorem frag_long {a0 a1 : Int} (w0 : (Lit.int .u32 a0).wf = true) (w1 : (Lit.int .u8 a1).wf = true) (W : World) :
    Calls Try.prog 7 #[.int .u32 a0, .int .u8 a1] W fun en w' => en = .returned (.bool true) ∧ Below W.heap.size W w' := by
  obtain ⟨e, rfl, he⟩ := in_u32 w0
  obtain ⟨f, rfl⟩ := in_byte w1
  exact long_all joins cutYes pagesAs e f W he
end Go.Proofs.Ytmaelcjmojhlpaa.Fg
