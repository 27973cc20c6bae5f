/- FragBack on the program that landed. -/
import Derived.Test.YtmaelcjmojhlpaaFgIn
import Derived.Test.YtmaelcjmojhlpaaFgC
import Derived.Test.YtmaelcjmojhlpaaFgG
import Derived.Test.YtmaelcjmojhlpaaLaw18B
set_option maxRecDepth 100000
set_option linter.unusedVariables false
namespace Go.Proofs.Ytmaelcjmojhlpaa.Fg
open Go.RowKit Go.Proofs.Ytmaelcjmojhlpaa.Row Go.Proofs.Ytmaelcjmojhlpaa.Pa
theorem frag_back {a0 : Int} {a1 : ByteArray} {a2 : Int} (w0 : (Lit.int .u32 a0).wf = true) (w1 : a1.size ≤ maxLen) (w2 : (Lit.int .u8 a2).wf = true) (W : World) :
    Calls Try.prog 3 #[.int .u32 a0, .string a1, .int .u8 a2] W fun en w' => en = .returned (.bool true) ∧ Below W.heap.size W w' := by
  obtain ⟨e, rfl, he⟩ := in_u32 w0
  obtain ⟨r, rfl, hr⟩ := in_text w1
  obtain ⟨h, rfl, hh⟩ := in_u8 w2
  exact back_all joins cutYes cutNo pagesAs e r h W he hr hh
end Go.Proofs.Ytmaelcjmojhlpaa.Fg
