/- Texts of the walk, one behind the other. -/
import Derived.Test.YtbbeekpndhfpjaaSegFrozenM9
import Derived.Test.YtbbeekpndhfpjaaPg0

section
/- (Cel's part without slices of elements.) One cell of whatever type loaded or stored, a field's address, a nil check, an element's address, whether the region draws its order or not. For every package. -/
set_option maxRecDepth 100000
set_option linter.unusedVariables false
namespace Go.Proofs.Ytbbeekpndhfpjaa.Row
open Go.RowKit

theorem run_cell1 {t : TypeId} {d : TypeDesc} (hu : Try.prog.underlying t = some d) (hd : d.isRow = false) {w : World} {p : Addr} {v : Value} (h : w.cell? p = some v) : (Instr.loadAt t (.pointer (some p))).run Try.prog w = .ok v w := by
  cases d <;> first | (cases hd; done) | simp [Instr.loadAt, Instr.sureAddr, loadVar, isAgg, run_underlying hu, h, go_sem]
theorem run_store1 {t : TypeId} (hs : (Try.prog.info? t).map (·.size) = some 1) {w : World} {p : Addr} {u v : Value} (h1 : v.oneCell' = true) (hc : w.cell? p = some u) (hf : w.frozen? p = false) : (Instr.storeAt t (.pointer (some p)) v).run Try.prog w = .ok () (w.setCell p v) := by
  have e : p.add 0 = p := by unfold Addr.add; simp
  have hv : v.cells = #[v] := by cases v <;> first | rfl | cases h1
  have hst : (store p v).run Try.prog w = .ok () (w.setCell p v) := by
    rw [run_store (hv := h1)]
    simp [hc, hf]
  simp [e, Instr.storeAt, Instr.sureAddr, storeVar, storeCells, hv, size_one hs, hst]

section
variable {ops : Array Oper} {rest : List Oper} {Q : Exit → Act → World → Prop} {S : World → Prop} {a : Act} {w : World} {oi : Oper}

/-- One cell loaded. -/
theorem y_cell1 {t : TypeId} {d : TypeDesc} {x : Operand} {p : Addr} {v : Value} (hw : Region.wanted oi (yielded ops a.tmps) = true) (ho : oi.op = .load t x) (hx : a.eval x = .pointer (some p)) (hu : Try.prog.underlying t = some d) (hd : d.isRow = false)
    (hc : ∀ w, S w → w.cell? p = some v) : YieldsIf Try.prog ops S oi v a :=
  .inl ⟨hw, fun w hw' => by
    unfold execOp
    simp only [ho, hx, run_cell1 hu hd (hc w hw'), Sem.run_bind, Sem.run_pure, Result.andThen_ok]⟩
/-- One cell stored. -/
theorem wpList_store1 (hgd : oi.guard = none) (t : TypeId) (x y : Operand) (ho : oi.op = .store t x y) {p : Addr} {u v : Value} (hx : a.eval x = .pointer (some p)) (hy : a.eval y = v) (hs : (Try.prog.info? t).map (·.size) = some 1) (h1 : v.oneCell' = true)
    (hc : w.cell? p = some u) (hf : w.frozen? p = false) (hK : wpList Try.prog ops Q rest (a.put oi.dst undef) (w.setCell p v)) : wpList Try.prog ops Q (oi :: rest) a w := by
  refine wpList_plain hgd fun K hK' => ?_
  unfold Oper.wp execOp
  simp only [ho, hx, hy, Sem.run_bind, Sem.run_pure, Result.andThen_ok, run_store1 hs h1 hc hf]
  exact hK' _ _ hK

/-- Field i of the struct t lies o cells behind its begin. -/
def FldO (t : TypeId) (i o : Nat) : Prop := ∀ b p w, (Instr.fieldAt t (.pointer (some ⟨b, p, none⟩)) i).run Try.prog w = .ok (.pointer (some ⟨b, p + o, none⟩)) w
theorem fldO {t : TypeId} {i o : Nat} {fs : Array Field} {f : Field} (hu : Try.prog.underlying t = some (.struct fs)) (hf : fs[i]? = some f) (ho : f.offset = o) {s : Nat} (hs : (Try.prog.info? f.type).map (·.size) = some s) (h0 : s ≠ 0) : FldO t i o := fun b p w => by
  have hz : ∀ w, (sizeOf f.type).run Try.prog w = .ok s w := fun w => by
    cases hi : Try.prog.info? f.type with
    | none => rw [hi] at hs; cases hs
    | some i => rw [hi] at hs; injection hs with hs; simp [sizeOf, typeInfo, hi, hs]
  unfold Instr.fieldAt
  simp [Sem.run_bind, run_underlying hu, Instr.sureAddr, go_sem, Addr.add, hf, ho, hz, h0]
theorem y_fieldO {t : TypeId} {y : Operand} {b p q i o : Nat} (hw : Region.wanted oi (yielded ops a.tmps) = true) (ho : oi.op = .fieldAddr t y i) (hy : a.eval y = .pointer (some ⟨b, p, none⟩)) (hf : FldO t i o) (hq : p + o = q) :
    YieldsIf Try.prog ops S oi (.pointer (some ⟨b, q, none⟩)) a :=
  y_run hw fun w => by
    subst hq
    unfold execOp
    simp only [ho, hy, hf b p w, Sem.run_bind, Result.andThen_ok, Sem.run_pure]
/-- The address of an element of an array. -/
theorem run_ax {t e : TypeId} {g o k n m : Nat} (hu : Try.prog.underlying t = some (.array n e)) (hs : (Try.prog.info? e).map (·.size) = some m) (hk : k < n) (w : World) :
    (Instr.indexAt t (.pointer (some ⟨g, o, none⟩)) (.int .i64 k)).run Try.prog w = .ok (.pointer (some ⟨g, o + k * m, none⟩)) w := by
  have h : (0 : Int) ≤ (k : Int) ∧ (k : Int) < (n : Int) := by omega
  have hz : ∀ w, (sizeOf e).run Try.prog w = .ok m w := fun w => by
    cases hi : Try.prog.info? e with
    | none => rw [hi] at hs; cases hs
    | some i => rw [hi] at hs; injection hs with hs; simp [sizeOf, typeInfo, hi, hs]
  unfold Instr.indexAt
  simp only [Sem.run_bind, asIntOf, Sem.run_pure, Result.andThen_ok, run_underlying hu, Instr.sureAddr, if_pos h, hz]
  simp only [Addr.add, Int.toNat_natCast]
  split <;> simp_all
theorem y_ax {t e : TypeId} {y z : Operand} {g o n m k q : Nat} {x : Int} (hw : Region.wanted oi (yielded ops a.tmps) = true) (ho : oi.op = .indexAddr t y z) (hy : a.eval y = .pointer (some ⟨g, o, none⟩)) (hz : a.eval z = .int .i64 x)
    (hu : Try.prog.underlying t = some (.array n e)) (hs : (Try.prog.info? e).map (·.size) = some m) (hx : x = k) (hk : k < n) (hq : o + k * m = q) : YieldsIf Try.prog ops S oi (.pointer (some ⟨g, q, none⟩)) a :=
  y_run hw fun w => by
    subst hx hq
    unfold execOp
    simp only [ho, hy, hz, run_ax hu hs hk, Sem.run_bind, Result.andThen_ok, Sem.run_pure]
end
end Go.Proofs.Ytbbeekpndhfpjaa.Row
end
