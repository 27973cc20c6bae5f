/- Texts of the walk, one behind the other. -/
import Derived.Test.YtbbeekpndhfpjaaSegFrozenM6

section
/- What operations of a region yield, one by one: arithmetic, comparisons, len, max, picks. -/
namespace Go.Proofs.Ytbbeekpndhfpjaa.Row
open Go.RowKit

section
variable {ops : Array Oper} {S : World → Prop} {a : Act} {oi : Oper}

theorem y_neg {y : Operand} {x r : Int} (hw : Region.wanted oi (yielded ops a.tmps) = true) (ho : oi.op = .unOp .neg 3 y) (hy : a.eval y = .int .i64 x) (hr : IntKind.i64.wrap (-x) = r) : YieldsIf Try.prog ops S oi (.int .i64 r) a :=
  y_run hw fun w => by
    unfold execOp
    simp only [ho, hy]
    simp [go_sem, hr]
theorem y_not {t : TypeId} {y : Operand} {b : Bool} (hw : Region.wanted oi (yielded ops a.tmps) = true) (ho : oi.op = .unOp .not t y) (hy : a.eval y = .bool b) : YieldsIf Try.prog ops S oi (.bool (!b)) a :=
  y_run hw fun w => by
    unfold execOp
    simp only [ho, hy]
    simp [go_sem]
theorem y_add {t t' : TypeId} {y z : Operand} {m n r : Int} (hw : Region.wanted oi (yielded ops a.tmps) = true) (ho : oi.op = .binOp .add t y z t') (hy : a.eval y = .int .i64 m) (hz : a.eval z = .int .i64 n) (hr : IntKind.i64.wrap (m + n) = r) : YieldsIf Try.prog ops S oi (.int .i64 r) a :=
  y_run hw fun w => by
    unfold execOp
    simp only [ho, hy, hz]
    simp [go_sem, hr]
theorem y_sub {t t' : TypeId} {y z : Operand} {m n r : Int} (hw : Region.wanted oi (yielded ops a.tmps) = true) (ho : oi.op = .binOp .sub t y z t') (hy : a.eval y = .int .i64 m) (hz : a.eval z = .int .i64 n) (hr : IntKind.i64.wrap (m - n) = r) : YieldsIf Try.prog ops S oi (.int .i64 r) a :=
  y_run hw fun w => by
    unfold execOp
    simp only [ho, hy, hz]
    simp [go_sem, hr]
theorem y_mul {t t' : TypeId} {y z : Operand} {m n r : Int} (hw : Region.wanted oi (yielded ops a.tmps) = true) (ho : oi.op = .binOp .mul t y z t') (hy : a.eval y = .int .i64 m) (hz : a.eval z = .int .i64 n) (hr : IntKind.i64.wrap (m * n) = r) : YieldsIf Try.prog ops S oi (.int .i64 r) a :=
  y_run hw fun w => by
    unfold execOp
    simp only [ho, hy, hz]
    simp [go_sem, hr]
theorem y_lss {t t' : TypeId} {y z : Operand} {m n : Int} {b : Bool} (hw : Region.wanted oi (yielded ops a.tmps) = true) (ho : oi.op = .binOp .lss t y z t') (hy : a.eval y = .int .i64 m) (hz : a.eval z = .int .i64 n) (hb : decide (m < n) = b) : YieldsIf Try.prog ops S oi (.bool b) a :=
  y_run hw fun w => by
    unfold execOp
    simp only [ho, hy, hz]
    simp [go_sem, hb]
theorem y_gtr {t t' : TypeId} {y z : Operand} {m n : Int} {b : Bool} (hw : Region.wanted oi (yielded ops a.tmps) = true) (ho : oi.op = .binOp .gtr t y z t') (hy : a.eval y = .int .i64 m) (hz : a.eval z = .int .i64 n) (hb : decide (n < m) = b) : YieldsIf Try.prog ops S oi (.bool b) a :=
  y_run hw fun w => by
    unfold execOp
    simp only [ho, hy, hz]
    simp [go_sem, hb]
theorem y_eqi2 {t' : TypeId} {y z : Operand} {m n : Int} {b : Bool} (hw : Region.wanted oi (yielded ops a.tmps) = true) (ho : oi.op = .binOp .eql 3 y z t') (hy : a.eval y = .int .i64 m) (hz : a.eval z = .int .i64 n) (hb : (m == n) = b) : YieldsIf Try.prog ops S oi (.bool b) a :=
  y_run hw fun w => by
    unfold execOp
    simp only [ho, hy, hz]
    simp [go_sem, hb]
theorem y_nei {t' : TypeId} {y z : Operand} {m n : Int} {b : Bool} (hw : Region.wanted oi (yielded ops a.tmps) = true) (ho : oi.op = .binOp .neq 3 y z t') (hy : a.eval y = .int .i64 m) (hz : a.eval z = .int .i64 n) (hb : (m != n) = b) : YieldsIf Try.prog ops S oi (.bool b) a :=
  y_run hw fun w => by
    unfold execOp
    simp only [ho, hy, hz]
    simp [go_sem, hb]
theorem y_neb {y z : Operand} {t' : TypeId} {m n b : Bool} (hw : Region.wanted oi (yielded ops a.tmps) = true) (ho : oi.op = .binOp .neq 4 y z t') (hy : a.eval y = .bool m) (hz : a.eval z = .bool n) (hb : (m != n) = b) : YieldsIf Try.prog ops S oi (.bool b) a :=
  y_run hw fun w => by
    subst hb
    unfold execOp
    simp only [ho, hy, hz]
    cases m <;> cases n <;> simp [go_sem]
theorem run_max2 (x u : Int) (h : max x (-x) = u) (w : World) :
    Sem.run Try.prog (Builtin.max_ #[3, 3] 3 #[.int .i64 x, .int .i64 (-x)]) w = .ok (.int .i64 u) w := by
  have e : (if x < -x then -x else x) = u := by
    rw [← h]; split <;> omega
  rw [← e]
  simp [Builtin.max_, Builtin.max2]
/-- 'max(x, -x)'. -/
theorem y_abs {y z : Operand} {m r : Int} (hw : Region.wanted oi (yielded ops a.tmps) = true) (ho : oi.op = .call { callee := .builtin .max, args := #[y, z], argTypes := #[3, 3] }) (ht : oi.type = 3) (hy : a.eval y = .int .i64 m) (hz : a.eval z = .int .i64 (-m)) (hr : max m (-m) = r) : YieldsIf Try.prog ops S oi (.int .i64 r) a :=
  y_run hw fun w => by
    have h := run_max2 m r hr w
    unfold execOp
    simp only [ho, ht, resolve, invoke, builtin, Sem.run_bind, Sem.run_pure, Result.andThen_ok, List.map_toArray, List.map_cons, List.map_nil, hy, hz, h]
theorem y_len {t : TypeId} {e : TypeId} {y : Operand} {ao : Option Addr} {n c : Nat} (hw : Region.wanted oi (yielded ops a.tmps) = true) (ho : oi.op = .call { callee := .builtin .len, args := #[y], argTypes := #[t] }) (hu : Try.prog.underlying t = some (.slice e)) (hy : a.eval y = .slice ao n c) : YieldsIf Try.prog ops S oi (.int .i64 n) a :=
  y_run hw fun w => by
    unfold execOp
    simp only [ho, resolve, invoke, builtin, Sem.run_bind, Sem.run_pure, Result.andThen_ok, List.map_toArray, List.map_cons, List.map_nil, hy]
    simp [Builtin.len_, run_underlying hu]
    rfl
end
end Go.Proofs.Ytbbeekpndhfpjaa.Row
end
