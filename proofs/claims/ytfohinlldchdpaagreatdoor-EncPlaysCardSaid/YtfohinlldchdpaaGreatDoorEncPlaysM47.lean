/- Texts of the walk, one behind the other. -/
import Derived.Test.YtfohinlldchdpaaGreatDoorEncPlaysM2
import Derived.Test.YtfohinlldchdpaaGreatDoorEncPlaysM1
import Derived.Test.YtfohinlldchdpaaGreatDoorEncPlaysM14
import Derived.Deep.AppendSrc
import Derived.Laws.IdiomStrings

section
/- A row of bytes with room, that bytes are appended to in place; cells of any kind loaded and stored in a drawn region; for every package. -/
set_option maxRecDepth 100000
set_option linter.unusedVariables false
namespace Go.Proofs.YtfohinlldchdpaaGreatDoor.Row
open Go.RowKit

/-- Bytes as cells. -/
def bv (l : List UInt8) : List Value := l.map fun c => Value.int .u8 (c.toNat : Int)
/-! Cells of any kind that is no row. -/
theorem run_cellV {w : World} {p : Addr} {v : Value} {t : TypeId} {d : TypeDesc} (hu : Tryz.prog.underlying t = some d) (hd : d.isRow = false) (h : w.cell? p = some v) : (Instr.loadAt t (.pointer (some p))).run Tryz.prog w = .ok v w := by
  have h2 : (isAgg t).run Tryz.prog w = .ok false w := by
    unfold isAgg
    rw [Sem.run_bind, run_underlying hu w]
    cases d <;> simp_all
  simp [Instr.loadAt, Instr.sureAddr, loadVar, h2, h, go_sem]
theorem y_cellV {ops : Array Oper} {S : World → Prop} {a : Act} {oi : Oper} {y : Operand} {p : Addr} {v : Value} {t : TypeId} {d : TypeDesc} (hw : Region.wanted oi (yielded ops a.tmps) = true) (ho : oi.op = .load t y) (hy : a.eval y = .pointer (some p))
    (hu : Tryz.prog.underlying t = some d) (hd : d.isRow = false) (hc : ∀ w, S w → w.cell? p = some v) : YieldsIf Tryz.prog ops S oi v a :=
  .inl ⟨hw, fun w hw' => by
    unfold execOp
    simp only [ho, hy, run_cellV hu hd (hc w hw'), Sem.run_bind, Sem.run_pure, Result.andThen_ok]⟩

section
variable {ops : Array Oper} {Q : Exit → Act → World → Prop} {S : World → Prop} {F : Nat → Bool} {fuel : Nat} {listed : Array Bool} {a : Act} {w : World} {oi : Oper} {i d : Nat} {rs : List Nat}

end
end Go.Proofs.YtfohinlldchdpaaGreatDoor.Row
end
