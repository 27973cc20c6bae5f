/- vect's Bits, the result named. -/
import Derived.Test.YtfcaigggacgfkaaDoorVeCn
set_option maxRecDepth 100000
set_option linter.unusedVariables false
namespace Go.Proofs.YtfcaigggacgfkaaDoor.Ve
open Go.RowKit Go.Proofs.YtfcaigggacgfkaaDoor.Row

theorem bits_as (n k : Int) (b : Nat) (w : World) (h : bI n k = b) :
    Calls Tryd.prog 12 #[.int .i64 n, .int .i64 k] w fun e w' => e = .returned (.int .i64 b) ∧ Below w.heap.size w w' := by
  rw [← h]; exact bits_any n k w
end Go.Proofs.YtfcaigggacgfkaaDoor.Ve
