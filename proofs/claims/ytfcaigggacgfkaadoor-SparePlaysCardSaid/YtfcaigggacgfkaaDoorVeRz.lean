/- The document's size of a number. -/
import Derived.Test.YtfcaigggacgfkaaDoorRow
set_option maxRecDepth 100000
set_option linter.unusedVariables false
namespace Go.Proofs.YtfcaigggacgfkaaDoor.Ve
open Go.RowKit Go.Proofs.YtfcaigggacgfkaaDoor.Row

/-- The document's size of a number. -/
def sz (x : Int) : Int := if x < -1099511627776 ∨ 1099511627776 < x then 1099511627776 else x.natAbs

theorem sz_small {x : Int} (h : -1099511627776 ≤ x) (h' : x ≤ 1099511627776) : sz x = x.natAbs := by unfold sz; rw [if_neg (by omega)]

theorem refSize_as (x r : Int) (w : World) (h : sz x = r) :
    Calls Tryd.prog 35 #[.int .i64 x] w fun e w' => e = .returned (.int .i64 r) ∧ w = w' := by
  subst h
  by_cases c1 : x < -1099511627776
  · go_enter Tryd.func35, Tryd.ntmps35
    go_wp2
    go_ret
    exact ⟨ret_int (by unfold sz; rw [if_pos (.inl c1)]), rfl⟩
  · by_cases c2 : 1099511627776 < x
    · go_enter Tryd.func35, Tryd.ntmps35
      go_wp2
      go_ret
      exact ⟨ret_int (by unfold sz; rw [if_pos (.inr c2)]), rfl⟩
    · by_cases c3 : x < 0
      · go_enter Tryd.func35, Tryd.ntmps35
        go_wp2
        go_ret
        exact ⟨ret_int (by unfold sz; rw [if_neg (by omega)]; omega), rfl⟩
      · go_enter Tryd.func35, Tryd.ntmps35
        go_wp2
        go_ret
        exact ⟨ret_int (by unfold sz; rw [if_neg (by omega)]; omega), rfl⟩
theorem rowL_is (n : Nat) (f : Nat → Int) : IsRow n (fun _ => 0) (rowL n f 0) := by rw [row_of0]; exact isRow_zero n
end Go.Proofs.YtfcaigggacgfkaaDoor.Ve
