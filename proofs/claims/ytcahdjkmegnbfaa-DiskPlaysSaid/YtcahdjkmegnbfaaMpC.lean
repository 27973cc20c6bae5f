/- 'clear(m)' of a map keyed by whole numbers; a struct or a page laid in a map's element. For every package. -/
import Derived.Test.YtcahdjkmegnbfaaMpI
set_option maxRecDepth 100000
set_option linter.unusedVariables false
namespace Go.Proofs.Ytcahdjkmegnbfaa.Row
open Go.RowKit Go.Maps Go.ChangeMaps Go.MapKept

section
variable {w w' : World} {kt t e : TypeId} {q : IntKind} {b n : Nat} {f g : Int → Option Value}
/-- 'clear(m)'. -/
theorem MpI.clear (h : MpI w kt q b n f) (ht : Try.prog.underlying t = some (.map kt e)) (ty : TypeId) :
    ∃ w', (Builtin.clear_ #[t] ty #[.map (some b)]).run Try.prog w = .ok (.tuple #[]) w' ∧ MpI w' kt q b 0 (fun _ => none) ∧ w.grownBy w' (some b) := by
  obtain ⟨D, ⟨es, clock, hb, F, _⟩, _⟩ := h
  refine ⟨setBlock w b (.map #[] clock), ?_, ⟨.map [], ⟨#[], clock, heap_setBlock_same hb _, ⟨by simp, stamped_empty clock, by simp⟩, Nat.le_refl _, rfl⟩, fun i _ => ⟨by simp [Maps.has], fun v h => by cases h⟩⟩, ⟨rfl, rfl, rfl, by simp [setBlock], fun i _ hi => heap_setBlock_other hb _ (fun e => hi (by rw [e]))⟩⟩
  simp [Builtin.clear_, run_underlying ht, MapKept.run_getObj_map hb, MapKept.run_setObj_map _ hb, Result.andThen, setBlock]
/-- 'clear(m)' at its operation. -/
theorem wpList_clear_mpi {ops : Array Oper} {rest : List Oper} {o : Oper} {a : Act} {Q : Exit → Act → World → Prop} (hg : o.guard = none) (m : Operand) (t : TypeId) (hop : o.op = Op.call { callee := Callee.builtin Builtin.clear, args := #[m], argTypes := #[t] })
    (ht : Try.prog.underlying t = some (.map kt e)) (hm : a.eval m = .map (some b)) (h : MpI w kt q b n f)
    (hK : ∀ w', MpI w' kt q b 0 (fun _ => none) → w.grownBy w' (some b) → wpList Try.prog ops Q rest (a.put o.dst (.tuple #[])) w') : wpList Try.prog ops Q (o :: rest) a w := by
  refine wpList_plain hg fun K' hK' => ?_
  obtain ⟨w', hrun, r1, r2⟩ := h.clear ht o.type
  unfold Oper.wp
  simp [execOp, hop, resolve, invoke, builtin, hm, hrun, Result.andThen]
  exact hK' _ _ (hK w' r1 r2)
/-- 'm[i]' at its operation. -/
theorem wpList_look_mpi {ops : Array Oper} {rest : List Oper} {o : Oper} {a : Act} {Q : Exit → Act → World → Prop} (hw : Region.wanted o (yielded ops a.tmps) = true) (m x : Operand) (hop : o.op = Op.lookup t m x false)
    (hk : Try.prog.underlying kt = some (.int q)) (ht : Try.prog.underlying t = some (.map kt e)) (hm : a.eval m = .map (some b)) (h : MpI w kt q b n f) {z : Value} (hz : (zeroValue e).run Try.prog w = .ok z w) {i : Int} (hx : a.eval x = .int q i) (hi : (Lit.int q i).wf = true)
    {v : Value} (hv : (f i).getD z = v) (hK : wpList Try.prog ops Q rest (a.put o.dst v) w) : wpList Try.prog ops Q (o :: rest) a w := by
  rw [wpList, if_pos hw]
  refine .inl ?_
  unfold Oper.wp execOp
  simp only [hop, hm, hx, h.look hk ht hz hi, hv, Sem.run_bind, Sem.run_pure, Result.andThen_ok]
  exact hK
/-- 'v, ok := m[i]' at its operation. -/
theorem wpList_look_ok_mpi {ops : Array Oper} {rest : List Oper} {o : Oper} {a : Act} {Q : Exit → Act → World → Prop} (hw : Region.wanted o (yielded ops a.tmps) = true) (m x : Operand) (hop : o.op = Op.lookup t m x true)
    (hk : Try.prog.underlying kt = some (.int q)) (ht : Try.prog.underlying t = some (.map kt e)) (hm : a.eval m = .map (some b)) (h : MpI w kt q b n f) {z : Value} (hz : (zeroValue e).run Try.prog w = .ok z w) {i : Int} (hx : a.eval x = .int q i) (hi : (Lit.int q i).wf = true)
    {v : Value} {bb : Bool} (hv : (f i).getD z = v) (hb : (f i).isSome = bb) (hK : wpList Try.prog ops Q rest (a.put o.dst (.tuple #[v, .bool bb])) w) : wpList Try.prog ops Q (o :: rest) a w := by
  rw [wpList, if_pos hw]
  refine .inl ?_
  unfold Oper.wp execOp
  simp only [hop, hm, hx, h.look_ok hk ht hz hi, hv, hb, Sem.run_bind, Sem.run_pure, Result.andThen_ok]
  exact hK
end
end Go.Proofs.Ytcahdjkmegnbfaa.Row
