/- FragEpochs on the program that landed. -/
import Derived.Test.YtmaelcjmojhlpaaFgIn
import Derived.Test.YtmaelcjmojhlpaaFgC
import Derived.Test.YtmaelcjmojhlpaaFgG
import Derived.Test.YtmaelcjmojhlpaaLaw18C
set_option maxRecDepth 100000
set_option linter.unusedVariables false
namespace Go.Proofs.Ytmaelcjmojhlpaa.Fg
open Go.RowKit Go.Proofs.Ytmaelcjmojhlpaa.Row Go.Proofs.Ytmaelcjmojhlpaa.Pa
theorem frag_epochs {a0 a1 : Int} {a2 a3 : ByteArray} {a4 : Int} (w0 : (Lit.int .u32 a0).wf = true) (w1 : (Lit.int .u32 a1).wf = true) (w2 : a2.size ≤ maxLen) (w3 : a3.size ≤ maxLen) (w4 : (Lit.int .u8 a4).wf = true) (W : World) :
    Calls Try.prog 4 #[.int .u32 a0, .int .u32 a1, .string a2, .string a3, .int .u8 a4] W fun en w' => en = .returned (.bool true) ∧ Below W.heap.size W w' := by
  obtain ⟨a, rfl, ha⟩ := in_u32 w0
  obtain ⟨e, rfl, he⟩ := in_u32 w1
  obtain ⟨s, rfl, hs⟩ := in_text w2
  obtain ⟨t, rfl, ht⟩ := in_text w3
  obtain ⟨c, rfl, hc⟩ := in_u8 w4
  exact epochs_all joins cutYes pagesAs a e s t c W ha he hs ht hc
end Go.Proofs.Ytmaelcjmojhlpaa.Fg
