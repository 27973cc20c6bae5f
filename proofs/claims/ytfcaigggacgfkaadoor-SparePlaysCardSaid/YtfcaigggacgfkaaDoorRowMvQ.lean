/- What operations of a region yield: indexes into slices. -/
import Derived.Test.YtfcaigggacgfkaaDoorRowMvY
namespace Go.Proofs.YtfcaigggacgfkaaDoor.Row
open Go.RowKit

theorem run_ix {b o n c k q : Nat} (hq : o + k = q) (hk : k < n) (w : World) :
    (Instr.indexAt 46 (.slice (some ⟨b, o, none⟩) n c) (.int .i64 k)).run Tryd.prog w = .ok (.pointer (some ⟨b, q, none⟩)) w := by
  subst hq
  have h : (0 : Int) ≤ (k : Int) ∧ (k : Int) < (n : Int) := by omega
  unfold Instr.indexAt
  simp only [Sem.run_bind, asIntOf, Sem.run_pure, Result.andThen_ok, run_underlying Tryd.underlying46, if_pos h, sizeOf_int]
  simp only [Addr.add, Nat.mul_one, Int.toNat_natCast]
  split <;> simp_all

section
variable {ops : Array Oper} {S : World → Prop} {a : Act} {oi : Oper}

theorem y_ix {y z : Operand} {b o n c k q : Nat} {x : Int} (hw : Region.wanted oi (yielded ops a.tmps) = true) (ho : oi.op = .indexAddr 46 y z) (hy : a.eval y = .slice (some ⟨b, o, none⟩) n c) (hz : a.eval z = .int .i64 x)
    (hx : x = k) (hq : o + k = q) (hk : k < n) : YieldsIf Tryd.prog ops S oi (.pointer (some ⟨b, q, none⟩)) a :=
  y_run hw fun w => by
    subst hx
    unfold execOp
    simp only [ho, hy, hz, run_ix hq hk, Sem.run_bind, Result.andThen_ok, Sem.run_pure]
end
end Go.Proofs.YtfcaigggacgfkaaDoor.Row
