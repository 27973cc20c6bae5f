/- FragPlays on the program that landed. -/
import Derived.Test.YtmaelcjmojhlpaaFgIn
import Derived.Test.YtmaelcjmojhlpaaFgC
import Derived.Test.YtmaelcjmojhlpaaLaw18A
set_option maxRecDepth 100000
set_option linter.unusedVariables false
namespace Go.Proofs.Ytmaelcjmojhlpaa.Fg
open Go.RowKit Go.Proofs.Ytmaelcjmojhlpaa.Row Go.Proofs.Ytmaelcjmojhlpaa.Pa
theorem frag_plays {a0 : Int} {a1 : ByteArray} (w0 : (Lit.int .u32 a0).wf = true) (w1 : a1.size ≤ maxLen) (W : World) :
    Calls Try.prog 5 #[.int .u32 a0, .string a1] W fun en w' => en = .returned (.bool true) ∧ Below W.heap.size W w' := by
  obtain ⟨e, rfl, he⟩ := in_u32 w0
  obtain ⟨r, rfl, hr⟩ := in_text w1
  exact plays_all cutYes pagesAs e r W he hr
end Go.Proofs.Ytmaelcjmojhlpaa.Fg
