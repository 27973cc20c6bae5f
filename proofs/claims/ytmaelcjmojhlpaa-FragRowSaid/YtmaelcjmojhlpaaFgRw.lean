/- FragRow on the program that landed. -/
import Derived.Test.YtmaelcjmojhlpaaFgIn
import Derived.Test.YtmaelcjmojhlpaaFgC
import Derived.Test.YtmaelcjmojhlpaaFgG
import Derived.Test.YtmaelcjmojhlpaaLaw18D
set_option maxRecDepth 100000
set_option linter.unusedVariables false
namespace Go.Proofs.Ytmaelcjmojhlpaa.Fg
open Go.RowKit Go.Proofs.Ytmaelcjmojhlpaa.Row Go.Proofs.Ytmaelcjmojhlpaa.Pa
theorem frag_row {a0 : Int} {a : Option Addr} {n c : Nat} {S : Nat → ByteArray} (w0 : (Lit.int .u32 a0).wf = true) (W : World) (s : SlT W a n c S) :
    Calls Try.prog 6 #[.int .u32 a0, .slice a n c] W fun en w' => en = .returned (.bool true) ∧ Below W.heap.size W w' := by
  obtain ⟨e, rfl, he⟩ := in_u32 w0
  exact row_all joins cutYes pagesAs e a n c S W he s
end Go.Proofs.Ytmaelcjmojhlpaa.Fg
