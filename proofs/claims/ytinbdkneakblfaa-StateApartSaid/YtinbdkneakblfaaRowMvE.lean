/- What operations of a region yield: named integers compared, a string's length. -/
import Derived.Test.YtinbdkneakblfaaRowMvY
namespace Go.Proofs.Ytinbdkneakblfaa.Row
open Go.RowKit

section
variable {ops : Array Oper} {S : World → Prop} {a : Act} {oi : Oper}

theorem y_eqe {t' : TypeId} {y z : Operand} {m n : Int} {b : Bool} (hw : Region.wanted oi (yielded ops a.tmps) = true) (ho : oi.op = .binOp .eql 27 y z t') (hy : a.eval y = .int .i64 m) (hz : a.eval z = .int .i64 n) (hb : (m == n) = b) : YieldsIf Try.prog ops S oi (.bool b) a :=
  y_run hw fun w => by
    unfold execOp
    simp only [ho, hy, hz]
    simp [go_sem, hb]
theorem y_lens {y : Operand} {s : ByteArray} {n : Int} (hw : Region.wanted oi (yielded ops a.tmps) = true) (ho : oi.op = .call { callee := .builtin .len, args := #[y], argTypes := #[9] }) (hy : a.eval y = .string s) (hn : (s.size : Int) = n) : YieldsIf Try.prog ops S oi (.int .i64 n) a :=
  y_run hw fun w => by
    subst hn
    unfold execOp
    simp only [ho, resolve, invoke, builtin, Sem.run_bind, Sem.run_pure, Result.andThen_ok, List.map_toArray, List.map_cons, List.map_nil, hy]
    simp [Builtin.len_, run_underlying Try.underlying9]
    rfl
end
end Go.Proofs.Ytinbdkneakblfaa.Row
