/- Moves through a region that draws its order, where nothing that stood is changed: rows loaded, compared, built; calls that make memory. -/
import Derived.Test.YtabenllglldkkaaMdJ
namespace Go.Proofs.Ytabenllglldkkaa.Md
open Go.RowKit Go.Proofs.Ytabenllglldkkaa.Ang

/-- All that stood in W stands. -/
def SB (W : World) (w : World) : Prop := Below W.heap.size W w

section
variable {ops : Array Oper} {Q : Exit → Act → World → Prop} {W : World} {fuel : Nat} {listed : Array Bool} {a : Act} {w : World} {oi : Oper} {i d : Nat}

theorem mv_start {id : Nat} (h : SB W W.drew → wpAnyH Try.prog .any ops (NoPanic Q) (SB W) ops.size (Array.replicate ops.size false) a W.drew) : (Code.region id ops true).wp Try.prog Q a W :=
  wp_region_noPanic (wp_region_held_drew (S := SB W) (by kernel_rfl) (Below.refl _ _).drew h)

theorem mv_yield (v : Value) (hi : ops[i]? = some oi) (hd : oi.dst = some d) (hs : Region.noSelect ops = true) (hf : Region.free .any ops listed i = true) (hr : (Region.ready .any ops listed).contains i = true)
    (hS : SB W w) (hy : YieldsIf Try.prog ops (SB W) oi v a)
    (h : wpAnyH Try.prog .any ops (NoPanic Q) (SB W) fuel (listed.setIfInBounds i true) (a.put (some d) v) w) : wpAnyH Try.prog .any ops (NoPanic Q) (SB W) (fuel + 1) listed a w :=
  wpAnyH_take hi hs hf hr (fun _ _ _ h => h) hy hS (by rw [hd]; exact h)

theorem y_load {t : TypeId} {x : Operand} {b m : Nat} {e : TypeId} {A : Array Value} (hw : Region.wanted oi (yielded ops a.tmps) = true) (ho : oi.op = .load t x) (hx : a.eval x = .pointer (some ⟨b, 0, none⟩))
    (hA : At W b A t) (hu : Try.prog.underlying t = some (.array m e)) (hi : (Try.prog.info? t).map (·.size) = some A.size) : YieldsIf Try.prog ops (SB W) oi (.agg A) a :=
  yields_load hw t x ho b hx A m e (fun _ h => hA.below h hA.lt) hu hi
theorem y_skip (hw : Region.wanted oi (yielded ops a.tmps) = false) : YieldsIf Try.prog ops (SB W) oi undef a := .inr ⟨hw, rfl⟩
theorem y_run {v : Value} (hw : Region.wanted oi (yielded ops a.tmps) = true) (h : ∀ w, (execOp a.eval oi).run Try.prog w = .ok (.value v) w) : YieldsIf Try.prog ops (SB W) oi v a := .inl ⟨hw, fun w _ => h w⟩
theorem y_eql {t t' : TypeId} {x y : Operand} {T U : Array Value} {b : Bool} (hw : Region.wanted oi (yielded ops a.tmps) = true) (ho : oi.op = .binOp .eql t x y t') (hx : a.eval x = .agg T) (hy : a.eval y = .agg U)
    (hg : Try.prog.eqGuardType Try.prog.depth t = false) (he : ∀ w, (Op.equalIn 10000 t (.agg T) (.agg U)).run Try.prog w = .ok b w) : YieldsIf Try.prog ops (SB W) oi (.bool b) a :=
  y_run hw fun w => by
    unfold execOp
    simp only [ho, hx, hy, Sem.run_bind, run_eqGuard_agg w _ t x y T U hg, run_eql_struct, he, Result.andThen_ok, Sem.run_pure]
theorem y_neq {t t' : TypeId} {x y : Operand} {T U : Array Value} {b : Bool} (hw : Region.wanted oi (yielded ops a.tmps) = true) (ho : oi.op = .binOp .neq t x y t') (hx : a.eval x = .agg T) (hy : a.eval y = .agg U)
    (hg : Try.prog.eqGuardType Try.prog.depth t = false) (he : ∀ w, (Op.equalIn 10000 t (.agg T) (.agg U)).run Try.prog w = .ok b w) : YieldsIf Try.prog ops (SB W) oi (.bool (!b)) a :=
  y_run hw fun w => by
    unfold execOp
    simp only [ho, hx, hy, Sem.run_bind, run_eqGuard_agg w _ t x y T U hg, run_neq_struct, he, Result.andThen_ok, Sem.run_pure]
theorem y_build {t : TypeId} {parts : Array (Nat × Operand)} {C : Array Value} (hw : Region.wanted oi (yielded ops a.tmps) = true) (ho : oi.op = .build t parts)
    (hc : Try.prog.built t (parts.map fun (i, x) => (i, a.eval x)).toList = some C) : YieldsIf Try.prog ops (SB W) oi (.agg C) a :=
  y_run hw fun w => by
    unfold execOp
    simp only [ho, Sem.run_bind, run_build w t _ C hc, Result.andThen_ok, Sem.run_pure]

/-- A function with a body is entered. -/
theorem run_enter {f : FuncId} {fn : Func} {c : Code} (hf : Try.prog.funcs[f]? = some fn) (hname : (fn.name == "runtime.NumGoroutine") = false) (hb : fn.body = some c) (args : Array Value) (w : World) :
    (callFunc f args).run Try.prog w = .ok (.enter f args) w := by
  have h1 : fn.name ≠ "runtime.NumGoroutine" := by simpa using hname
  simp [callFunc, hf, h1, hb]

/-- A call by its contract, where nothing else may come up. -/
theorem mv_call {f : FuncId} {xs : Array Operand} {ats : Array TypeId} {v : Value} (args : Array Value) (hi : ops[i]? = some oi) (hd : oi.dst = some d) (hr : Region.ready .any ops listed = [i]) (hw : Region.wanted oi (yielded ops a.tmps) = true)
    (ho : oi.op = .call { callee := .value (.func f), args := xs, argTypes := ats }) (hS : SB W w) (hn : ∀ args w, (callFunc f args).run Try.prog w = .ok (.enter f args) w)
    (ha : xs.map a.eval = args) (hc : Calls Try.prog f args w fun e w' => e = .returned v ∧ Below w.heap.size w w')
    (h : ∀ w', SB W w' → wpAnyH Try.prog .any ops (NoPanic Q) (SB W) fuel (listed.setIfInBounds i true) (a.put (some d) v) w') : wpAnyH Try.prog .any ops (NoPanic Q) (SB W) (fuel + 1) listed a w := by
  refine wpAnyH_ready (rs := [i]) hr (by simp) ?_
  refine AllReadyH.cons hi (fun K hK => ?_) AllReadyH.nil
  rw [if_pos hw]
  obtain ⟨dst, op, type, pos, after, guard⟩ := oi
  dsimp only at ho hd
  subst ho hd
  unfold Oper.wp
  rw [execOp_call_go]
  have e : (#[] ++ xs.map a.eval ++ #[] : Array Value) = xs.map a.eval := by simp
  rw [e, hn, ha]
  show Calls Try.prog f args w _
  refine hc.mono fun e w' ⟨he, hb⟩ => ?_
  subst he
  have hS' : SB W w' := below_trans hS hb (Below.size hS)
  exact hK.out _ _ hS' fun _ => h w' hS'

theorem mv_done (hr : Region.ready .any ops listed = []) (h : Q .normal a w) : wpAnyH Try.prog .any ops (NoPanic Q) (SB W) fuel listed a w := wpAnyH_done hr (NoPanic.normal h) _
end
end Go.Proofs.Ytabenllglldkkaa.Md
