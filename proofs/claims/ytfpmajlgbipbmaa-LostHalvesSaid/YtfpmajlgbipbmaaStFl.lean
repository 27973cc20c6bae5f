/- A state's fields in regions that draw their order. -/
import Derived.Test.YtfpmajlgbipbmaaStA
import Derived.Test.YtfpmajlgbipbmaaRowMvC
set_option maxRecDepth 100000
namespace Go.Proofs.Ytfpmajlgbipbmaa.Sta
open Go.RowKit Go.Proofs.Ytfpmajlgbipbmaa.Row

/-- Field i of the struct t lies o cells behind its begin. -/
def FldAt (t : TypeId) (i o : Nat) : Prop := ∀ b w, (Instr.fieldAt t (.pointer (some ⟨b, 0, none⟩)) i).run Try.prog w = .ok (.pointer (some ⟨b, o, none⟩)) w
theorem fld_p0 : FldAt 31 0 0 := fun b w => by
  unfold Instr.fieldAt
  simp [Sem.run_bind, run_underlying Try.underlying31, Instr.sureAddr, go_sem, Addr.add]
theorem fld_p1 : FldAt 31 1 16 := fun b w => by
  unfold Instr.fieldAt
  simp [Sem.run_bind, run_underlying Try.underlying31, Instr.sureAddr, go_sem, Addr.add]
theorem fld_r0 : FldAt 25 0 0 := fun b w => by
  unfold Instr.fieldAt
  simp [Sem.run_bind, run_underlying Try.underlying25, Instr.sureAddr, go_sem, Addr.add]
theorem fld_r1 : FldAt 25 1 16 := fun b w => by
  unfold Instr.fieldAt
  simp [Sem.run_bind, run_underlying Try.underlying25, Instr.sureAddr, go_sem, Addr.add]
theorem fld_r2 : FldAt 25 2 17 := fun b w => by
  unfold Instr.fieldAt
  simp [Sem.run_bind, run_underlying Try.underlying25, Instr.sureAddr, go_sem, Addr.add]
theorem fld_r4 : FldAt 25 4 37 := fun b w => by
  unfold Instr.fieldAt
  simp [Sem.run_bind, run_underlying Try.underlying25, Instr.sureAddr, go_sem, Addr.add]

theorem y_field {ops : Array Oper} {S : World → Prop} {oi : Oper} {a : Act} {t : TypeId} {y : Operand} {b i o : Nat} (hw : Region.wanted oi (yielded ops a.tmps) = true) (ho : oi.op = .fieldAddr t y i) (hy : a.eval y = .pointer (some ⟨b, 0, none⟩)) (hf : FldAt t i o) :
    YieldsIf Try.prog ops S oi (.pointer (some ⟨b, o, none⟩)) a :=
  y_run hw fun w => by
    unfold execOp
    simp only [ho, hy, hf b w, Sem.run_bind, Result.andThen_ok, Sem.run_pure]
end Go.Proofs.Ytfpmajlgbipbmaa.Sta
