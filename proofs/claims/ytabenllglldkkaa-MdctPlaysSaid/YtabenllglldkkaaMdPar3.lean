/- Several variables made at once: the rule as a walk takes it; a whole row stored. -/
import Derived.Test.YtabenllglldkkaaMdPar2
namespace Go.Proofs.Ytabenllglldkkaa.Md
open Go.RowKit Go.Proofs.Ytabenllglldkkaa.Ang

theorem StepR.mono {o : Oper} {a : Act} {w : World} {R R' : Value → World → Prop} (h : StepR o a w R) (hR : ∀ v w', R v w' → R' v w') : StepR o a w R' := by
  rcases h with ⟨v, w', hr, h⟩ | ⟨f, args, hr, h⟩
  · exact .inl ⟨v, w', hr, hR v w' h⟩
  · exact .inr ⟨f, args, hr, h.mono fun e w' ⟨v, hv, hh⟩ => ⟨v, hv, hR v w' hh⟩⟩
theorem st_call {isA : Nat → Bool} {V : Nat → Value} {Zc : Nat → Array Value} {ty : Nat → TypeId} {i : Nat} {o : Oper} {a : Act} {w : World} {f : FuncId} {xs : Array Operand} {ats : Array TypeId} {v : Value} (args : Array Value)
    (ho : o.op = .call { callee := .value (.func f), args := xs, argTypes := ats }) (hA : isA i = false) (hV : V i = v)
    (hn : ∀ args w, (callFunc f args).run Try.prog w = .ok (.enter f args) w) (ha : xs.map a.eval = args) (hc : Calls Try.prog f args w fun e w' => e = .returned v ∧ Below w.heap.size w w') :
    StepR o a w fun v w' => Below w.heap.size w w' ∧ (isA i = false → v = V i) ∧ (isA i = true → v = .pointer (some ⟨w.heap.size, 0, none⟩) ∧ At w' w.heap.size (Zc i) (ty i)) :=
  (step_call args ho hn ha hc).mono fun _ _ ⟨h1, h2⟩ => ⟨h1, fun _ => h2.trans hV.symm, fun h => by rw [hA] at h; cases h⟩
theorem st_alloc {isA : Nat → Bool} {V : Nat → Value} {Zc : Nat → Array Value} {ty : Nat → TypeId} {i : Nat} {o : Oper} {a : Act} {w : World} {t : TypeId} {Z : Array Value} (ho : o.op = .alloc t) (hA : isA i = true) (hZ : Zc i = Z) (ht : ty i = t)
    (hz : ∀ w, (zeroValue t).run Try.prog w = .ok (.agg Z) w) :
    StepR o a w fun v w' => Below w.heap.size w w' ∧ (isA i = false → v = V i) ∧ (isA i = true → v = .pointer (some ⟨w.heap.size, 0, none⟩) ∧ At w' w.heap.size (Zc i) (ty i)) :=
  (step_alloc ho hz).mono fun _ _ ⟨h1, h2, h3⟩ => ⟨h1, (fun h => by rw [hA] at h; cases h), fun _ => ⟨h2, by rw [hZ, ht]; exact h3⟩⟩

section
variable {ops : Array Oper} {Q : Exit → Act → World → Prop} {W : World} {fuel : Nat} {a : Act} {w : World} {listed : Array Bool} {oi : Oper}

theorem par0 (hd rd : List Nat) (isA : Nat → Bool) (V : Nat → Value) (Zc : Nat → Array Value) (ty : Nat → TypeId) (l1 : Array Bool) (F : Nat) (hF : F = hd.length + fuel)
    (hnd : hd.Nodup) (hrd : ∀ i ∈ hd, i ∈ rd) (hdr : ∀ i ∈ rd, i ∈ hd) (hsz : l1.size = ops.size) (hin : (hd.all fun i => l1.getD i false) = true)
    (c0 : ((List.range ops.size).all fun j => listed.getD j true == (if hd.contains j then false else l1.getD j true)) = true) (c5 : listed.size = ops.size)
    (c1 : chkOrder ops hd l1 [] hd = true) (c2 : chkTail ops hd rd l1 = true) (c3 : chkApart ops hd = true) (c4 : Region.noSelect ops = true) (hS : SB W w)
    (hstep : ∀ i ∈ hd, ∃ o, ops[i]? = some o ∧ ∀ w, SB W w → StepR o a w fun v w' => Below w.heap.size w w' ∧ (isA i = false → v = V i) ∧ (isA i = true → v = .pointer (some ⟨w.heap.size, 0, none⟩) ∧ At w' w.heap.size (Zc i) (ty i)))
    (fin : ∀ (val : Nat → Value) (w : World), SB W w → (∀ i ∈ hd, Yp W isA V Zc ty i (val i) w) → (∀ i ∈ hd, ∀ k ∈ hd, i ≠ k → isA i = true → isA k = true → val i ≠ val k) →
      wpAnyH Try.prog .any ops (NoPanic Q) (SB W) fuel l1 (hd.foldl (fun a i => a.put (dstOf ops i) (val i)) a) w) :
    wpAnyH Try.prog .any ops (NoPanic Q) (SB W) F listed a w := by
  have hin' : ∀ i ∈ hd, l1.getD i false = true := fun i hi => by rw [List.all_eq_true] at hin; exact hin i hi
  have e : partA ops (fun _ => false) (fun _ => undef) hd a = a := by
    unfold partA
    generalize hd = l
    induction l with
    | nil => rfl
    | cons k l ih => simp only [List.foldl_cons, Bool.false_eq_true, if_false]; exact ih
  have := par (ops := ops) (Q := Q) (W := W) (fuel := fuel) (a0 := a) hd rd isA V Zc ty l1 hnd hrd hdr hsz hin' c1 c2 c3 c4 (fun i hi o ho => by obtain ⟨o', ho', h⟩ := hstep i hi; rw [ho] at ho'; injection ho' with e; subst e; exact h) fin hd.length (fun _ => false) (fun _ => undef) listed w
    (by simp) c5 (fun j => by
      by_cases hj : j < ops.size
      · rw [List.all_eq_true] at c0
        have := c0 j (by simpa using hj)
        simpa using this
      · have hm : hd.contains j = false := by
          cases hc : hd.contains j
          · rfl
          · exact absurd (by rw [← hsz]; exact getD_lt (hin' j (by simpa using hc))) hj
        rw [hm]
        simp [c5, hsz, hj]) (fun _ _ h => by cases h) hS (fun _ _ h => by cases h) (fun _ _ _ _ _ h => by cases h)
  rw [e] at this
  rw [hF]
  exact this

theorem mv_store {i : Nat} {t t' : TypeId} {x y : Operand} (b : Nat) (A old : Array Value) (hi : ops[i]? = some oi) (hd : oi.dst = none) (hr : Region.ready .any ops listed = [i]) (hw : Region.wanted oi (yielded ops a.tmps) = true)
    (ho : oi.op = .store t x y) (hx : a.eval x = .pointer (some ⟨b, 0, none⟩)) (hy : a.eval y = .agg A) (hold : At w b old t') (hs : old.size = A.size) (h1 : A.all (·.oneCell') = true) (hsz : (Try.prog.info? t).map (·.size) = some A.size)
    (hb : W.heap.size ≤ b) (hS : SB W w) (h : SB W (w.setRow b A) → wpAnyH Try.prog .any ops (NoPanic Q) (SB W) fuel (listed.setIfInBounds i true) a (w.setRow b A)) :
    wpAnyH Try.prog .any ops (NoPanic Q) (SB W) (fuel + 1) listed a w := by
  refine wpAnyH_ready (rs := [i]) hr (by simp) ?_
  refine AllReadyH.cons hi (fun K hK => ?_) AllReadyH.nil
  rw [if_pos hw]
  refine wp_store_row t x y ho b A hx hy t' old hold hsz hs h1 ?_
  rw [hd]
  have hS' : SB W (w.setRow b A) := below_setRow' hS hb A
  exact hK.out _ _ hS' h
end

theorem enter_small (args : Array Value) (w : World) : (callFunc 9 args).run Try.prog w = .ok (.enter 9 args) w := run_enter Try.func9 (by kernel_rfl) rfl args w
theorem enter_waves (args : Array Value) (w : World) : (callFunc 11 args).run Try.prog w = .ok (.enter 11 args) w := run_enter Try.func11 (by kernel_rfl) rfl args w
theorem enter_held (args : Array Value) (w : World) : (callFunc 14 args).run Try.prog w = .ok (.enter 14 args) w := run_enter Try.func14 (by kernel_rfl) rfl args w
theorem enter_most (args : Array Value) (w : World) : (callFunc 13 args).run Try.prog w = .ok (.enter 13 args) w := run_enter Try.func13 (by kernel_rfl) rfl args w
end Go.Proofs.Ytabenllglldkkaa.Md
