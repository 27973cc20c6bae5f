/- Slices of bools that a function makes, and one element laid by itself. For every package. -/
import Derived.Test.YtcahdjkmegnbfaaEls
import Derived.Test.YtcahdjkmegnbfaaPg
set_option maxRecDepth 100000
set_option linter.unusedVariables false
namespace Go.Proofs.Ytcahdjkmegnbfaa.Row
open Go.RowKit

/-- A row that stands, read as one element of a slice. -/
theorem At.one {w : World} {b m : Nat} {R : Array Value} {t : TypeId} (h : At w b R t) : ∀ i, i < 1 → w.rangeAt b (0 + i * m) ((fun _ : Nat => R) i).toList := fun i hi j v hv => by
  obtain rfl : i = 0 := by omega
  rw [Array.getElem?_toList] at hv
  rw [show 0 + 0 * m + j = j by omega, cell_of_row _ _ j _ _ _ h]
  exact hv
theorem wid_one {m : Nat} {R : Array Value} (h : R.size = m) (h1 : R.all (·.oneCell') = true) : Wid m (fun _ => R) 1 := fun _ _ => ⟨h, h1⟩
section
variable {w : World} {B n c : Nat} {te : TypeId} {a : Option Addr} {f : Nat → Bool}
/-- A slice of bools of one's own, handed on. -/
theorem Els.slB (h : Els w B te 1 a n c (fun i => #[.bool (f i)])) : SlB w a n c f :=
  ⟨h.cap.1, h.cap.2, fun hn => by
    obtain ⟨g, rfl, _⟩ := h.addr hn
    refine ⟨g, 0, rfl, fun i hi => ?_⟩
    have := h.range hi 0 (.bool (f i)) rfl
    rw [Nat.mul_one] at this
    rw [Nat.zero_add]
    exact this⟩
/-- The bytes of the k-th page. -/
theorem Els.page {m : Nat} {g k : Nat} {F : Nat → Array Value} {p : Nat → Int} (h : Els w B te m (some ⟨g, 0, none⟩) n c F) (hk : k < n) (hp : IsRow8 m p (F k)) (j : Nat) (hj : j < m) : w.cell? ⟨g, k * m + j, none⟩ = some (.int .u8 (p j)) :=
  h.range hk j _ (by rw [Array.getElem?_toList]; exact hp.2.2 j hj)
end
end Go.Proofs.Ytcahdjkmegnbfaa.Row
