/- Texts of the walk, one behind the other. -/
import Derived.Test.YtbbeekpndhfpjaaFr
import Derived.Maps.OwnSet

section
/- Maps keyed by whole numbers, whatever their elements: what stands in them, by a function. For every package; the types are handed in. -/
set_option maxRecDepth 100000
set_option linter.unusedVariables false
namespace Go.Proofs.Ytbbeekpndhfpjaa.Row
open Go.RowKit Go.Maps

/-- An element reads as itself. -/
def selfR (v : Value) : Option (DataW Value × List MemPlace) := some (.held v, [])
/-- Block b is a map of at most n entries: f's. -/
def MpI (w : World) (kt : TypeId) (q : IntKind) (b n : Nat) (f : Int → Option Value) : Prop :=
  ∃ D : DataW Value, w.ownsMap Try.prog kt selfR b n D ∧ ∀ i, (Lit.int q i).wf = true → Maps.has D (.int q i) = (f i).isSome ∧ ∀ v, f i = some v → ∀ z, D.atKey (.int q i) z = .held v
section
variable {w w' : World} {kt t e : TypeId} {q : IntKind} {b n : Nat} {f g : Int → Option Value}
theorem MpI.made (w : World) (kt : TypeId) (q : IntKind) : MpI (w.alloc (.map #[] 0)) kt q w.heap.size 0 (fun _ => none) :=
  ⟨.map [], World.ownsMap_made w _ _ _, fun i _ => ⟨by simp [Maps.has], fun v h => by cases h⟩⟩
theorem MpI.lt (h : MpI w kt q b n f) : b < w.heap.size := let ⟨_, h, _⟩ := h; h.lt
theorem MpI.keep (h : MpI w kt q b n f) (hk : w'.heap[b]? = w.heap[b]?) : MpI w' kt q b n f := by
  obtain ⟨D, ⟨es, clock, hb, r⟩, hD⟩ := h
  exact ⟨D, ⟨es, clock, hk.trans hb, r⟩, hD⟩
theorem MpI.below (h : MpI w kt q b n f) (hb : Below w.heap.size w w') : MpI w' kt q b n f := h.keep (hb.block b h.lt)
theorem MpI.fr {T : Nat → Prop} (h : MpI w kt q b n f) (hf : Fr T w w') (hT : ¬ T b) : MpI w' kt q b n f := h.keep (hf.block b h.lt hT)
theorem MpI.grown {row : Option Nat} (h : MpI w kt q b n f) (hg : w.grownBy w' row) (hne : some b ≠ row) : MpI w' kt q b n f := h.keep (hg.block b h.lt hne)
theorem MpI.mono (h : MpI w kt q b n f) {n' : Nat} (hn : n ≤ n') : MpI w kt q b n' f := let ⟨D, h1, h2⟩ := h; ⟨D, h1.mono hn, h2⟩
theorem MpI.ext (h : MpI w kt q b n f) (he : ∀ i, (Lit.int q i).wf = true → f i = g i) : MpI w kt q b n g := by
  obtain ⟨D, h1, h2⟩ := h
  exact ⟨D, h1, fun i hi => by rw [← he i hi]; exact h2 i hi⟩
/-- 'v, ok := m[i]'. -/
theorem MpI.look_ok (h : MpI w kt q b n f) (hk : Try.prog.underlying kt = some (.int q)) (ht : Try.prog.underlying t = some (.map kt e)) {z : Value} (hz : (zeroValue e).run Try.prog w = .ok z w) {i : Int} (hi : (Lit.int q i).wf = true) :
    (Instr.lookup t (.map (some b)) (.int q i) true).run Try.prog w = .ok (.tuple #[(f i).getD z, .bool (f i).isSome]) w := by
  obtain ⟨D, h1, h2⟩ := h
  obtain ⟨a1, a2⟩ := h2 i hi
  obtain ⟨v, ps, hr, hv⟩ := h1.look_ok (int_keyed hk) ht hz (zd := .held z) (zp := []) rfl (keyOf_int_mk hk hi)
  rw [hr, a1]
  unfold selfR at hv
  simp only [Option.some.injEq, Prod.mk.injEq] at hv
  cases hf : f i with
  | none =>
    rw [hf] at a1
    rw [atKey_of_not_has (by rw [a1]; rfl)] at hv
    obtain ⟨e1, _⟩ := hv
    injection e1 with e1
    rw [e1]; rfl
  | some u =>
    rw [a2 u hf] at hv
    obtain ⟨e1, _⟩ := hv
    injection e1 with e1
    rw [e1]; rfl
/-- 'm[i]'. -/
theorem MpI.look (h : MpI w kt q b n f) (hk : Try.prog.underlying kt = some (.int q)) (ht : Try.prog.underlying t = some (.map kt e)) {z : Value} (hz : (zeroValue e).run Try.prog w = .ok z w) {i : Int} (hi : (Lit.int q i).wf = true) :
    (Instr.lookup t (.map (some b)) (.int q i) false).run Try.prog w = .ok ((f i).getD z) w := by
  obtain ⟨D, h1, h2⟩ := h
  obtain ⟨a1, a2⟩ := h2 i hi
  obtain ⟨v, ps, hr, hv⟩ := h1.lookup (int_keyed hk) ht hz (zd := .held z) (zp := []) rfl (keyOf_int_mk hk hi)
  rw [hr]
  unfold selfR at hv
  simp only [Option.some.injEq, Prod.mk.injEq] at hv
  cases hf : f i with
  | none =>
    rw [hf] at a1
    rw [atKey_of_not_has (by rw [a1]; rfl)] at hv
    obtain ⟨e1, _⟩ := hv
    injection e1 with e1
    rw [e1]; rfl
  | some u =>
    rw [a2 u hf] at hv
    obtain ⟨e1, _⟩ := hv
    injection e1 with e1
    rw [e1]; rfl
/-- 'm[i] = v'. -/
theorem MpI.store (h : MpI w kt q b n f) (hk : Try.prog.underlying kt = some (.int q)) (ht : Try.prog.underlying t = some (.map kt e)) (hn : n < maxLen) {i : Int} (hi : (Lit.int q i).wf = true) (v : Value) :
    ∃ w', (Instr.mapUpdate t (.map (some b)) (.int q i) v).run Try.prog w = .ok () w' ∧ MpI w' kt q b (n + 1) (fun j => if j = i then some v else f j) ∧ w.grownBy w' (some b) := by
  obtain ⟨D, h1, h2⟩ := h
  have hkl := keyOf_int_mk (P := Try.prog) hk hi
  obtain ⟨w', hr, h3, h4⟩ := h1.update (int_keyed hk) ht hn hkl (val := v) (d := .held v) (ps := []) rfl
  refine ⟨w', hr, ⟨_, h3, fun j hj => ?_⟩, h4⟩
  by_cases e : j = i
  · subst e
    simp only [if_true]
    have hat : ∀ z, (D.put (.int q j) (.held v)).atKey (.int q j) z = .held v := fun z => atKey_put_same h1.isMap ((int_keyed hk).key hkl) _ _
    exact ⟨has_true_of_atKey hat, fun u hu z => by injection hu with hu; rw [← hu]; exact hat z⟩
  · have hne : Lit.int q j ≠ Lit.int q i := fun h => e (by injection h)
    simp only [if_neg e]
    exact ⟨by rw [has_put_other hne]; exact (h2 j hj).1, fun u hu z => by rw [atKey_put_other hne]; exact (h2 j hj).2 u hu z⟩
/-- 'delete(m, i)'. -/
theorem MpI.drop (h : MpI w kt q b n f) (hk : Try.prog.underlying kt = some (.int q)) (ht : Try.prog.underlying t = some (.map kt e)) {i : Int} (hi : (Lit.int q i).wf = true) (ty : TypeId) :
    ∃ w', (Builtin.delete_ #[t, kt] ty #[.map (some b), .int q i]).run Try.prog w = .ok (.tuple #[]) w' ∧ MpI w' kt q b n (fun j => if j = i then none else f j) ∧ w.grownBy w' (some b) := by
  obtain ⟨D, h1, h2⟩ := h
  have hkl := keyOf_int_mk (P := Try.prog) hk hi
  obtain ⟨w', hr, h3, h4⟩ := h1.drop (int_keyed hk) ht hkl ty
  refine ⟨w', hr, ⟨_, h3, fun j hj => ?_⟩, h4.grown⟩
  by_cases e : j = i
  · subst e
    simp only [if_true]
    exact ⟨has_false_of_atKey fun z => atKey_del_same _, fun u hu => by cases hu⟩
  · have hne : Lit.int q j ≠ Lit.int q i := fun h => e (by injection h)
    simp only [if_neg e]
    refine ⟨?_, fun u hu z => by rw [atKey_del_other hne]; exact (h2 j hj).2 u hu z⟩
    rw [← (h2 j hj).1]
    cases hb : Maps.has D (.int q j)
    · exact has_false_of_atKey fun z => by rw [atKey_del_other hne]; exact atKey_of_not_has hb z
    · have hs : (f j).isSome = true := by rw [← (h2 j hj).1]; exact hb
      obtain ⟨u, hu⟩ := Option.isSome_iff_exists.1 hs
      exact has_true_of_atKey (y := .held u) fun z => by rw [atKey_del_other hne]; exact (h2 j hj).2 u hu z
/-- 'm[i] = v' at its operation. -/
theorem wpList_put_mpi {ops : Array Oper} {rest : List Oper} {o : Oper} {a : Act} {Q : Exit → Act → World → Prop} (hg : o.guard = none) (m x v : Operand) (hop : o.op = Op.mapUpdate t m x v)
    (hk : Try.prog.underlying kt = some (.int q)) (ht : Try.prog.underlying t = some (.map kt e)) (hm : a.eval m = .map (some b)) (h : MpI w kt q b n f) (hn : n < maxLen) {i : Int} {u : Value} (hx : a.eval x = .int q i) (hv : a.eval v = u) (hi : (Lit.int q i).wf = true)
    (hK : ∀ w', MpI w' kt q b (n + 1) (fun j => if j = i then some u else f j) → w.grownBy w' (some b) → wpList Try.prog ops Q rest (a.put o.dst undef) w') : wpList Try.prog ops Q (o :: rest) a w := by
  refine wpList_plain hg fun K' hK' => ?_
  obtain ⟨w', hrun, r1, r2⟩ := h.store hk ht hn hi u
  unfold Oper.wp
  simp [execOp, hop, hm, hx, hv, hrun, Result.andThen]
  exact hK' _ _ (hK w' r1 r2)
end
end Go.Proofs.Ytbbeekpndhfpjaa.Row
end

section
/- 'clear(m)' of a map keyed by whole numbers; a struct or a page laid in a map's element. For every package. -/
set_option maxRecDepth 100000
set_option linter.unusedVariables false
namespace Go.Proofs.Ytbbeekpndhfpjaa.Row
open Go.RowKit Go.Maps Go.ChangeMaps Go.MapKept

section
variable {w w' : World} {kt t e : TypeId} {q : IntKind} {b n : Nat} {f g : Int → Option Value}
/-- 'clear(m)'. -/
theorem MpI.clear (h : MpI w kt q b n f) (ht : Try.prog.underlying t = some (.map kt e)) (ty : TypeId) :
    ∃ w', (Builtin.clear_ #[t] ty #[.map (some b)]).run Try.prog w = .ok (.tuple #[]) w' ∧ MpI w' kt q b 0 (fun _ => none) ∧ w.grownBy w' (some b) := by
  obtain ⟨D, ⟨es, clock, hb, F, _⟩, _⟩ := h
  refine ⟨setBlock w b (.map #[] clock), ?_, ⟨.map [], ⟨#[], clock, heap_setBlock_same hb _, ⟨by simp, stamped_empty clock, by simp⟩, Nat.le_refl _, rfl⟩, fun i _ => ⟨by simp [Maps.has], fun v h => by cases h⟩⟩, ⟨rfl, rfl, rfl, by simp [setBlock], fun i _ hi => heap_setBlock_other hb _ (fun e => hi (by rw [e]))⟩⟩
  simp [Builtin.clear_, run_underlying ht, MapKept.run_getObj_map hb, MapKept.run_setObj_map _ hb, Result.andThen, setBlock]
/-- 'clear(m)' at its operation. -/
theorem wpList_clear_mpi {ops : Array Oper} {rest : List Oper} {o : Oper} {a : Act} {Q : Exit → Act → World → Prop} (hg : o.guard = none) (m : Operand) (t : TypeId) (hop : o.op = Op.call { callee := Callee.builtin Builtin.clear, args := #[m], argTypes := #[t] })
    (ht : Try.prog.underlying t = some (.map kt e)) (hm : a.eval m = .map (some b)) (h : MpI w kt q b n f)
    (hK : ∀ w', MpI w' kt q b 0 (fun _ => none) → w.grownBy w' (some b) → wpList Try.prog ops Q rest (a.put o.dst (.tuple #[])) w') : wpList Try.prog ops Q (o :: rest) a w := by
  refine wpList_plain hg fun K' hK' => ?_
  obtain ⟨w', hrun, r1, r2⟩ := h.clear ht o.type
  unfold Oper.wp
  simp [execOp, hop, resolve, invoke, builtin, hm, hrun, Result.andThen]
  exact hK' _ _ (hK w' r1 r2)
/-- 'm[i]' at its operation. -/
theorem wpList_look_mpi {ops : Array Oper} {rest : List Oper} {o : Oper} {a : Act} {Q : Exit → Act → World → Prop} (hw : Region.wanted o (yielded ops a.tmps) = true) (m x : Operand) (hop : o.op = Op.lookup t m x false)
    (hk : Try.prog.underlying kt = some (.int q)) (ht : Try.prog.underlying t = some (.map kt e)) (hm : a.eval m = .map (some b)) (h : MpI w kt q b n f) {z : Value} (hz : (zeroValue e).run Try.prog w = .ok z w) {i : Int} (hx : a.eval x = .int q i) (hi : (Lit.int q i).wf = true)
    {v : Value} (hv : (f i).getD z = v) (hK : wpList Try.prog ops Q rest (a.put o.dst v) w) : wpList Try.prog ops Q (o :: rest) a w := by
  rw [wpList, if_pos hw]
  refine .inl ?_
  unfold Oper.wp execOp
  simp only [hop, hm, hx, h.look hk ht hz hi, hv, Sem.run_bind, Sem.run_pure, Result.andThen_ok]
  exact hK
/-- 'v, ok := m[i]' at its operation. -/
theorem wpList_look_ok_mpi {ops : Array Oper} {rest : List Oper} {o : Oper} {a : Act} {Q : Exit → Act → World → Prop} (hw : Region.wanted o (yielded ops a.tmps) = true) (m x : Operand) (hop : o.op = Op.lookup t m x true)
    (hk : Try.prog.underlying kt = some (.int q)) (ht : Try.prog.underlying t = some (.map kt e)) (hm : a.eval m = .map (some b)) (h : MpI w kt q b n f) {z : Value} (hz : (zeroValue e).run Try.prog w = .ok z w) {i : Int} (hx : a.eval x = .int q i) (hi : (Lit.int q i).wf = true)
    {v : Value} {bb : Bool} (hv : (f i).getD z = v) (hb : (f i).isSome = bb) (hK : wpList Try.prog ops Q rest (a.put o.dst (.tuple #[v, .bool bb])) w) : wpList Try.prog ops Q (o :: rest) a w := by
  rw [wpList, if_pos hw]
  refine .inl ?_
  unfold Oper.wp execOp
  simp only [hop, hm, hx, h.look_ok hk ht hz hi, hv, hb, Sem.run_bind, Sem.run_pure, Result.andThen_ok]
  exact hK
end
end Go.Proofs.Ytbbeekpndhfpjaa.Row
end
