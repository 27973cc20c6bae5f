/- Texts of the walk, one behind the other. -/
import Derived.Test.YtimhemcoflpmcaaDoorDecTotalM2

section
/- The document's size of a number. -/
set_option maxRecDepth 100000
set_option linter.unusedVariables false
namespace Go.Proofs.YtimhemcoflpmcaaDoor.Ve
open Go.RowKit Go.Proofs.YtimhemcoflpmcaaDoor.Row

/-- The document's size of a number. -/
def sz (x : Int) : Int := if x < -1099511627776 ∨ 1099511627776 < x then 1099511627776 else x.natAbs

theorem sz_small {x : Int} (h : -1099511627776 ≤ x) (h' : x ≤ 1099511627776) : sz x = x.natAbs := by unfold sz; rw [if_neg (by omega)]

theorem rowL_is (n : Nat) (f : Nat → Int) : IsRow n (fun _ => 0) (rowL n f 0) := by rw [row_of0]; exact isRow_zero n
end Go.Proofs.YtimhemcoflpmcaaDoor.Ve
end
