/- What the laws of layer 14 start with; bounds of halves; max of two numbers. Written by g40.py. -/
import Derived.Test.YtfpmajlgbipbmaaLoE
import Derived.Test.YtfpmajlgbipbmaaStR
set_option maxRecDepth 100000
set_option linter.unusedVariables false
namespace Go.Proofs.Ytfpmajlgbipbmaa.Lo
open Go.RowKit Go.Proofs.Ytfpmajlgbipbmaa.Row Go.Proofs.Ytfpmajlgbipbmaa.Md Go.Proofs.Ytfpmajlgbipbmaa.Tl Go.Proofs.Ytfpmajlgbipbmaa.Sta

theorem hl_bd {x : Int} (h : ab x ≤ 1048576) : ∀ k, ab (hlN x k) ≤ 1048576
  | 0 => h
  | k + 1 => half_ab (hl_bd h k)
theorem run_maxi (x y u : Int) (h : max x y = u) (w : World) : (Builtin.max_ #[3, 3] 3 #[.int .i64 x, .int .i64 y]).run Try.prog w = .ok (.int .i64 u) w := by
  have e : (if x < y then y else x) = u := by rw [← h]; split <;> omega
  rw [← e]
  simp [Builtin.max_, Builtin.max2]
theorem y_max {ops : Array Oper} {S : World → Prop} {a : Act} {oi : Oper} {y z : Operand} {m n r : Int} (hw : Region.wanted oi (yielded ops a.tmps) = true) (ho : oi.op = .call { callee := .builtin .max, args := #[y, z], argTypes := #[3, 3] }) (ht : oi.type = 3) (hy : a.eval y = .int .i64 m) (hz : a.eval z = .int .i64 n) (hr : max m n = r) : YieldsIf Try.prog ops S oi (.int .i64 r) a :=
  y_run hw fun w => by
    have h := run_maxi m n r hr w
    unfold execOp
    simp only [ho, ht, resolve, invoke, builtin, Sem.run_bind, Sem.run_pure, Result.andThen_ok, List.map_toArray, List.map_cons, List.map_nil, hy, hz, h]
end Go.Proofs.Ytfpmajlgbipbmaa.Lo
