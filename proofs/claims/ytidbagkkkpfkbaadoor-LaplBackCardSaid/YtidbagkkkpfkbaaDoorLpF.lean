/- The numbers of LaplBack: cells, costs, whether they fit. -/
import Derived.Test.YtidbagkkkpfkbaaDoorLpD
import Derived.Test.YtidbagkkkpfkbaaDoorRgUd
import Derived.Test.YtidbagkkkpfkbaaDoorRgSt
set_option maxRecDepth 100000
set_option linter.unusedVariables false
namespace Go.Proofs.YtidbagkkkpfkbaaDoor.Lp
open Go.RowKit Go.Proofs.YtidbagkkkpfkbaaDoor.Row Go.Proofs.YtidbagkkkpfkbaaDoor.Rg

/-- The number that is put at place i. -/
def tm (f : Nat → Int) (i : Nat) : Int := (f i).tmod 25
def LC (f : Nat → Int) (n : Nat) : List Cl := (List.range n).map fun i => cl (tm f i)
def bud (f : Nat → Int) : Nat → Nat
  | 0 => 0
  | k + 1 => bud f k + cC (tm f k) + 1
theorem tm_bd (f : Nat → Int) (i : Nat) : -24 ≤ tm f i ∧ tm f i ≤ 24 := by
  unfold tm
  have h1 := Int.tmod_lt_of_pos (f i) (show (0 : Int) < 25 by omega)
  have h2 := Int.tmod_lt_of_pos (-(f i)) (show (0 : Int) < 25 by omega)
  rw [Int.neg_tmod] at h2
  omega
theorem LC_ok (f : Nat → Int) (n : Nat) : ∀ C ∈ LC f n, C.ok := by
  intro C hC
  unfold LC at hC
  simp only [List.mem_map] at hC
  obtain ⟨i, _, rfl⟩ := hC
  exact cl_ok (tm_bd f i).1 (tm_bd f i).2
theorem LC_at (f : Nat → Int) {n i : Nat} (h : i < n) : (LC f n)[i]? = some (cl (tm f i)) := by
  unfold LC
  simp [h]
theorem LC_length (f : Nat → Int) (n : Nat) : (LC f n).length = n := by unfold LC; simp
theorem cC_le {v : Int} (h : -24 ≤ v ∧ v ≤ 24) : cC v ≤ 15 := (cost_spec (by have := (cl_bd h).1; omega)).1
theorem bud_le (f : Nat → Int) (k : Nat) : bud f k ≤ 16 * k := by
  induction k with
  | zero => exact Nat.le_refl _
  | succ k ih =>
    have := cC_le (tm_bd f k)
    show bud f k + cC (tm f k) + 1 ≤ _
    omega
theorem fits_all (f : Nat → Int) (n : Nat) : ∀ k, k ≤ n → Fits (St.new.run ((LC f n).take k)) (bud f k + 1) := by
  intro k
  induction k with
  | zero => exact fun _ => fits_new
  | succ k ih =>
    intro hk
    have h := LC_at f (n := n) (i := k) (by omega)
    have hb := tm_bd f k
    rw [take_snoc _ _ _ h, run_snoc]
    have := fits_put (run_take (LC_ok f n) k).1 (cl_ok hb.1 hb.2) (ih (by omega)) (j := cC (tm f k)) (cost_all (by have := (cl_bd hb).1; omega))
    rw [show bud f (k + 1) + 1 = bud f k + 1 + cC (tm f k) + 1 by show bud f k + cC (tm f k) + 1 + 1 = _; omega]
    exact this
end Go.Proofs.YtidbagkkkpfkbaaDoor.Lp
