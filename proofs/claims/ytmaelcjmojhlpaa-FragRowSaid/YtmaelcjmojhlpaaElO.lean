/- One element laid by itself (carved out of ElB). For every package. -/
import Derived.Test.YtmaelcjmojhlpaaElS
import Derived.Test.YtmaelcjmojhlpaaRowMv
set_option maxRecDepth 100000
set_option linter.unusedVariables false
namespace Go.Proofs.Ytmaelcjmojhlpaa.Row
open Go.RowKit

/-- A row that stands, read as one element of a slice. -/
theorem At.one {w : World} {b m : Nat} {R : Array Value} {t : TypeId} (h : At w b R t) : ∀ i, i < 1 → w.rangeAt b (0 + i * m) ((fun _ : Nat => R) i).toList := fun i hi j v hv => by
  obtain rfl : i = 0 := by omega
  rw [Array.getElem?_toList] at hv
  rw [show 0 + 0 * m + j = j by omega, cell_of_row _ _ j _ _ _ h]
  exact hv
theorem wid_one {m : Nat} {R : Array Value} (h : R.size = m) (h1 : R.all (·.oneCell') = true) : Wid m (fun _ => R) 1 := fun _ _ => ⟨h, h1⟩
section
variable {ops : Array Oper} {S : World → Prop} {a : Act} {oi : Oper}
/-- The address of an element of a slice. -/
theorem y_ex {ts te : TypeId} {y z : Operand} {g o n c m k q by_ : Nat} {Z : Array Value} {x : Int} (T : ElT ts te m by_ Z) (hw : Region.wanted oi (yielded ops a.tmps) = true) (ho : oi.op = .indexAddr ts y z) (hy : a.eval y = .slice (some ⟨g, o, none⟩) n c) (hz : a.eval z = .int .i64 x)
    (hx : x = k) (hk : k < n) (hq : o + k * m = q) : YieldsIf Try.prog ops S oi (.pointer (some ⟨g, q, none⟩)) a :=
  y_run hw fun w => by
    subst hx hq
    unfold execOp
    simp only [ho, hy, hz, run_ex T hk, Sem.run_bind, Result.andThen_ok, Sem.run_pure]
end
end Go.Proofs.Ytmaelcjmojhlpaa.Row
