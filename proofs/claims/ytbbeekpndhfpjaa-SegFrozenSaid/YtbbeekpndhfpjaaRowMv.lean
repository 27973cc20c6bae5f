/- Moves through a region that draws its order, under any condition S on the world: what yields its value wherever S holds; calls, new variables, rows stored. -/
import Derived.Test.YtbbeekpndhfpjaaRow
namespace Go.Proofs.Ytbbeekpndhfpjaa.Row
open Go.RowKit

/-- All that stood in W stands. -/
def SB (W : World) (w : World) : Prop := Below W.heap.size W w

section
variable {ops : Array Oper} {Q : Exit → Act → World → Prop} {S : World → Prop} {W : World} {fuel : Nat} {listed : Array Bool} {a : Act} {w : World} {oi : Oper} {i d : Nat} {rs : List Nat}

theorem mv_startS {id : Nat} (S : World → Prop) (hS : S w.drew) (h : S w.drew → wpAnyH Try.prog .any ops (NoPanic Q) S ops.size (Array.replicate ops.size false) a w.drew) : (Code.region id ops true).wp Try.prog Q a w :=
  wp_region_noPanic (wp_region_held_drew (S := S) (by kernel_rfl) hS h)
theorem mv_start {id : Nat} (h : SB W W.drew → wpAnyH Try.prog .any ops (NoPanic Q) (SB W) ops.size (Array.replicate ops.size false) a W.drew) : (Code.region id ops true).wp Try.prog Q a W :=
  mv_startS (SB W) (Below.refl _ _).drew h

theorem mv_yield (v : Value) (hi : ops[i]? = some oi) (hd : oi.dst = some d) (hs : Region.noSelect ops = true) (hf : Region.free .any ops listed i = true) (hr : (Region.ready .any ops listed).contains i = true)
    (hS : S w) (hy : YieldsIf Try.prog ops S oi v a)
    (h : wpAnyH Try.prog .any ops (NoPanic Q) S fuel (listed.setIfInBounds i true) (a.put (some d) v) w) : wpAnyH Try.prog .any ops (NoPanic Q) S (fuel + 1) listed a w :=
  wpAnyH_take hi hs hf hr (fun _ _ _ h => h) hy hS (by rw [hd]; exact h)

theorem y_loadS {t t' : TypeId} {x : Operand} {b m : Nat} {e : TypeId} {A : Array Value} (hw : Region.wanted oi (yielded ops a.tmps) = true) (ho : oi.op = .load t x) (hx : a.eval x = .pointer (some ⟨b, 0, none⟩))
    (hA : ∀ w, S w → At w b A t') (hu : Try.prog.underlying t = some (.array m e)) (hi : (Try.prog.info? t).map (·.size) = some A.size) : YieldsIf Try.prog ops S oi (.agg A) a :=
  .inl ⟨hw, fun w hw' => by
    unfold execOp
    simp only [ho, hx, run_load hu (hA w hw') hi, Sem.run_bind, Sem.run_pure, Result.andThen_ok]⟩
theorem y_load {t t' : TypeId} {x : Operand} {b m : Nat} {e : TypeId} {A : Array Value} (hw : Region.wanted oi (yielded ops a.tmps) = true) (ho : oi.op = .load t x) (hx : a.eval x = .pointer (some ⟨b, 0, none⟩))
    (hA : At W b A t') (hu : Try.prog.underlying t = some (.array m e)) (hi : (Try.prog.info? t).map (·.size) = some A.size) : YieldsIf Try.prog ops (SB W) oi (.agg A) a :=
  y_loadS hw ho hx (fun _ h => hA.below h hA.lt) hu hi
theorem y_skip (hw : Region.wanted oi (yielded ops a.tmps) = false) : YieldsIf Try.prog ops S oi undef a := .inr ⟨hw, rfl⟩
theorem y_run {v : Value} (hw : Region.wanted oi (yielded ops a.tmps) = true) (h : ∀ w, (execOp a.eval oi).run Try.prog w = .ok (.value v) w) : YieldsIf Try.prog ops S oi v a := .inl ⟨hw, fun w _ => h w⟩
theorem y_eql {t t' : TypeId} {x y : Operand} {T U : Array Value} {b : Bool} (hw : Region.wanted oi (yielded ops a.tmps) = true) (ho : oi.op = .binOp .eql t x y t') (hx : a.eval x = .agg T) (hy : a.eval y = .agg U)
    (hg : Try.prog.eqGuardType Try.prog.depth t = false) (he : ∀ w, (Op.equalIn 10000 t (.agg T) (.agg U)).run Try.prog w = .ok b w) : YieldsIf Try.prog ops S oi (.bool b) a :=
  y_run hw fun w => by
    unfold execOp
    simp only [ho, hx, hy, Sem.run_bind, run_eqGuard_agg w _ t x y T U hg, run_eql_struct, he, Result.andThen_ok, Sem.run_pure]
theorem y_neq {t t' : TypeId} {x y : Operand} {T U : Array Value} {b : Bool} (hw : Region.wanted oi (yielded ops a.tmps) = true) (ho : oi.op = .binOp .neq t x y t') (hx : a.eval x = .agg T) (hy : a.eval y = .agg U)
    (hg : Try.prog.eqGuardType Try.prog.depth t = false) (he : ∀ w, (Op.equalIn 10000 t (.agg T) (.agg U)).run Try.prog w = .ok b w) : YieldsIf Try.prog ops S oi (.bool (!b)) a :=
  y_run hw fun w => by
    unfold execOp
    simp only [ho, hx, hy, Sem.run_bind, run_eqGuard_agg w _ t x y T U hg, run_neq_struct, he, Result.andThen_ok, Sem.run_pure]
theorem y_build {t : TypeId} {parts : Array (Nat × Operand)} {C : Array Value} (hw : Region.wanted oi (yielded ops a.tmps) = true) (ho : oi.op = .build t parts)
    (hc : Try.prog.built t (parts.map fun (i, x) => (i, a.eval x)).toList = some C) : YieldsIf Try.prog ops S oi (.agg C) a :=
  y_run hw fun w => by
    unfold execOp
    simp only [ho, Sem.run_bind, run_build w t _ C hc, Result.andThen_ok, Sem.run_pure]

/-- The address of a number in a row. -/
theorem run_at {t : TypeId} {b m k : Nat} {x : Int} (hu : Try.prog.underlying t = some (.array m 3)) (hx : x = k) (hk : k < m) (w : World) :
    (Instr.indexAt t (.pointer (some ⟨b, 0, none⟩)) (.int .i64 x)).run Try.prog w = .ok (.pointer (some ⟨b, k, none⟩)) w := by
  subst hx
  have h : (0 : Int) ≤ (k : Int) ∧ (k : Int) < (m : Int) := by omega
  unfold Instr.indexAt
  simp only [Sem.run_bind, asIntOf, Sem.run_pure, Result.andThen_ok, run_underlying hu, Instr.sureAddr, if_pos h, sizeOf_int]
  simp only [Addr.add, Nat.mul_one, Int.toNat_natCast]
  split <;> simp_all
theorem y_at {t : TypeId} {y z : Operand} {b m k : Nat} {x : Int} (hw : Region.wanted oi (yielded ops a.tmps) = true) (ho : oi.op = .indexAddr t y z) (hy : a.eval y = .pointer (some ⟨b, 0, none⟩)) (hz : a.eval z = .int .i64 x)
    (hu : Try.prog.underlying t = some (.array m 3)) (hx : x = k) (hk : k < m) : YieldsIf Try.prog ops S oi (.pointer (some ⟨b, k, none⟩)) a :=
  y_run hw fun w => by
    unfold execOp
    simp only [ho, hy, hz, run_at hu hx hk, Sem.run_bind, Result.andThen_ok, Sem.run_pure]
theorem run_cell {w : World} {p : Addr} {x : Int} (h : w.cell? p = some (.int .i64 x)) : (Instr.loadAt 3 (.pointer (some p))).run Try.prog w = .ok (.int .i64 x) w := by
  simp [Instr.loadAt, Instr.sureAddr, loadVar, isAgg, run_underlying Try.underlying3, h, go_sem]
theorem y_cellS {y : Operand} {p : Addr} {x : Int} (hw : Region.wanted oi (yielded ops a.tmps) = true) (ho : oi.op = .load 3 y) (hy : a.eval y = .pointer (some p))
    (hc : ∀ w, S w → w.cell? p = some (.int .i64 x)) : YieldsIf Try.prog ops S oi (.int .i64 x) a :=
  .inl ⟨hw, fun w hw' => by
    unfold execOp
    simp only [ho, hy, run_cell (hc w hw'), Sem.run_bind, Sem.run_pure, Result.andThen_ok]⟩
theorem y_cell {y : Operand} {p : Addr} {x : Int} (hw : Region.wanted oi (yielded ops a.tmps) = true) (ho : oi.op = .load 3 y) (hy : a.eval y = .pointer (some p))
    (hc : W.cell? p = some (.int .i64 x)) : YieldsIf Try.prog ops (SB W) oi (.int .i64 x) a :=
  y_cellS hw ho hy fun w hS => by rw [Below.cell hS (block_lt_of_cell hc)]; exact hc

/-- A function with a body is entered. -/
theorem run_enter {f : FuncId} {fn : Func} {c : Code} (hf : Try.prog.funcs[f]? = some fn) (hname : (fn.name == "runtime.NumGoroutine") = false) (hb : fn.body = some c) (args : Array Value) (w : World) :
    (callFunc f args).run Try.prog w = .ok (.enter f args) w := by
  have h1 : fn.name ≠ "runtime.NumGoroutine" := by simpa using hname
  simp [callFunc, hf, h1, hb]

/-- A call by its contract, where others may come up too; what is known behind it is P. -/
theorem ar_callP {f : FuncId} {xs : Array Operand} {ats : Array TypeId} {v : Value} {P : World → Prop} (args : Array Value) (hi : ops[i]? = some oi) (hd : oi.dst = some d) (hw : Region.wanted oi (yielded ops a.tmps) = true)
    (ho : oi.op = .call { callee := .value (.func f), args := xs, argTypes := ats }) (hn : ∀ args w, (callFunc f args).run Try.prog w = .ok (.enter f args) w)
    (ha : xs.map a.eval = args) (hc : Calls Try.prog f args w fun e w' => e = .returned v ∧ P w') (hP : ∀ w', P w' → S w')
    (h : ∀ w', P w' → S w' → wpAnyH Try.prog .any ops (NoPanic Q) S fuel (listed.setIfInBounds i true) (a.put (some d) v) w')
    (hs : AllReadyH Try.prog .any ops (NoPanic Q) S fuel listed a w rs) : AllReadyH Try.prog .any ops (NoPanic Q) S fuel listed a w (i :: rs) := by
  refine AllReadyH.cons hi (fun K hK => ?_) hs
  rw [if_pos hw]
  obtain ⟨dst, op, type, pos, after, guard⟩ := oi
  dsimp only at ho hd
  subst ho hd
  unfold Oper.wp
  rw [execOp_call_go]
  have e : (#[] ++ xs.map a.eval ++ #[] : Array Value) = xs.map a.eval := by simp
  rw [e, hn, ha]
  show Calls Try.prog f args w _
  refine hc.mono fun e w' ⟨he, hb⟩ => ?_
  subst he
  exact hK.out _ _ (hP w' hb) fun _ => h w' hb (hP w' hb)

/-- A new variable, where others may come up too. -/
theorem ar_alloc {t : TypeId} {Z : Array Value} (hi : ops[i]? = some oi) (hd : oi.dst = some d) (hw : Region.wanted oi (yielded ops a.tmps) = true) (ho : oi.op = .alloc t) (hz : ∀ w, (zeroValue t).run Try.prog w = .ok (.agg Z) w)
    (hS : S (w.alloc (.cells Z t)))
    (h : S (w.alloc (.cells Z t)) → wpAnyH Try.prog .any ops (NoPanic Q) S fuel (listed.setIfInBounds i true) (a.put (some d) (.pointer (some ⟨w.heap.size, 0, none⟩))) (w.alloc (.cells Z t)))
    (hs : AllReadyH Try.prog .any ops (NoPanic Q) S fuel listed a w rs) : AllReadyH Try.prog .any ops (NoPanic Q) S fuel listed a w (i :: rs) := by
  refine AllReadyH.cons hi (fun K hK => ?_) hs
  rw [if_pos hw]
  have hr : (execOp a.eval oi).run Try.prog w = .ok (.value (.pointer (some ⟨w.heap.size, 0, none⟩))) (w.alloc (.cells Z t)) := by
    unfold execOp
    simp only [ho]
    simp [Instr.alloc, hz, go_sem]
  unfold Oper.wp
  rw [hr, Oper.upon_value, hd]
  exact hK.out _ _ hS h

/-- A whole row stored, where others may come up too. -/
theorem ar_store {t t' : TypeId} {x y : Operand} (b : Nat) (A old : Array Value) (hi : ops[i]? = some oi) (hd : oi.dst = none) (hw : Region.wanted oi (yielded ops a.tmps) = true)
    (ho : oi.op = .store t x y) (hx : a.eval x = .pointer (some ⟨b, 0, none⟩)) (hy : a.eval y = .agg A) (hold : At w b old t') (hso : old.size = A.size) (h1 : A.all (·.oneCell') = true) (hsz : (Try.prog.info? t).map (·.size) = some A.size)
    (hS : S (w.setRow b A)) (h : S (w.setRow b A) → wpAnyH Try.prog .any ops (NoPanic Q) S fuel (listed.setIfInBounds i true) a (w.setRow b A))
    (hs : AllReadyH Try.prog .any ops (NoPanic Q) S fuel listed a w rs) : AllReadyH Try.prog .any ops (NoPanic Q) S fuel listed a w (i :: rs) := by
  refine AllReadyH.cons hi (fun K hK => ?_) hs
  rw [if_pos hw]
  refine wp_store_row t x y ho b A hx hy t' old hold hsz hso h1 ?_
  rw [hd]
  exact hK.out _ _ hS h

theorem mv_ready (rs : List Nat) (hr : Region.ready .any ops listed = rs) (hne : rs ≠ []) (h : AllReadyH Try.prog .any ops (NoPanic Q) S fuel listed a w rs) : wpAnyH Try.prog .any ops (NoPanic Q) S (fuel + 1) listed a w :=
  wpAnyH_ready hr hne h

/-- A call by its contract, where nothing else may come up, and all that stood stands. -/
theorem mv_call {f : FuncId} {xs : Array Operand} {ats : Array TypeId} {v : Value} (args : Array Value) (hi : ops[i]? = some oi) (hd : oi.dst = some d) (hr : Region.ready .any ops listed = [i]) (hw : Region.wanted oi (yielded ops a.tmps) = true)
    (ho : oi.op = .call { callee := .value (.func f), args := xs, argTypes := ats }) (hS : SB W w) (hn : ∀ args w, (callFunc f args).run Try.prog w = .ok (.enter f args) w)
    (ha : xs.map a.eval = args) (hc : Calls Try.prog f args w fun e w' => e = .returned v ∧ Below w.heap.size w w')
    (h : ∀ w', SB W w' → wpAnyH Try.prog .any ops (NoPanic Q) (SB W) fuel (listed.setIfInBounds i true) (a.put (some d) v) w') : wpAnyH Try.prog .any ops (NoPanic Q) (SB W) (fuel + 1) listed a w :=
  mv_ready [i] hr (by simp) (ar_callP args hi hd hw ho hn ha hc (fun _ hb => below_trans hS hb (Below.size hS)) (fun w' _ hS' => h w' hS') AllReadyH.nil)

theorem mv_done (hr : Region.ready .any ops listed = []) (h : Q .normal a w) : wpAnyH Try.prog .any ops (NoPanic Q) S fuel listed a w := wpAnyH_done hr (NoPanic.normal h) _
end

/-- A row and a number as results. -/
theorem results_row_int {fn : Func} {p q : Tmp} {t u : TypeId} {z : Value} (h : fn.results = #[.cell p t, .tmp q]) (tmps : Array Value) (w : World) (g : Nat) (A : Array Value) (m : Nat) (e : TypeId)
    (hp : tmps.getD p undef = .pointer (some ⟨g, 0, none⟩)) (hq : tmps.getD q undef = z) (hg : At w g A u)
    (hu : Try.prog.underlying t = some (.array m e)) (hA : (Try.prog.info? t).map (·.size) = some A.size) :
    (results fn tmps).run Try.prog w = .ok (.tuple #[.agg A, z]) w := by
  have hp' : tmps[p]?.getD undef = .pointer (some ⟨g, 0, none⟩) := by simpa using hp
  have hq' : tmps[q]?.getD undef = z := by simpa using hq
  have h1 := run_loadVar_row w g u t A (0, 0) _ hg hu rfl hA
  simp [results, h, hp', hq', asAddr, h1]
end Go.Proofs.Ytbbeekpndhfpjaa.Row
