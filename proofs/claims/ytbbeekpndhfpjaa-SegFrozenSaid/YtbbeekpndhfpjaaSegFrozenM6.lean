/- Texts of the walk, one behind the other. -/
import Derived.Test.YtbbeekpndhfpjaaRowMv2

section
/- Moves through a region that draws its order and ends in stores into what the region itself reads: S is asked behind all operations but those of F, each of which waits for whatever is taken first. -/
namespace Go.Proofs.Ytbbeekpndhfpjaa.Row
open Go.RowKit

def wpAnyF (P : Program) (md : Region.Mode) (ops : Array Oper) (Q : Exit → Act → World → Prop) (S : World → Prop) (F : Nat → Bool) : Nat → Array Bool → Act → World → Prop
  | 0, listed, a, w => Region.ready md ops listed = [] ∧ Q .normal a w
  | fuel + 1, listed, a, w =>
    (Region.ready md ops listed = [] → Q .normal a w) ∧
    ∀ i ∈ Region.ready md ops listed, wpOp P ops Q i (fun a' w' => (F i = false → S w') ∧ wpAnyF P md ops Q S F fuel (listed.setIfInBounds i true) a' w') a w

section
variable {P : Program} {ops : Array Oper} {Q : Exit → Act → World → Prop} {md : Region.Mode} {S : World → Prop} {F : Nat → Bool}

theorem wpAny_of_F : ∀ (fuel : Nat) (listed : Array Bool) (a : Act) (w : World), wpAnyF P md ops Q S F fuel listed a w → wpAny P md ops Q fuel listed a w
  | 0, _, _, _, h => h
  | fuel + 1, _, _, _, h => ⟨h.1, fun i hi => wpOp_mono (fun a' w' h' => wpAny_of_F fuel _ a' w' h'.2) (h.2 i hi)⟩

/-- Does each of F's operations wait for number i? -/
def waitsFor (md : Region.Mode) (ops : Array Oper) (F : Nat → Bool) (i : Nat) : Bool := (List.range ops.size).all fun j => !F j || (match ops[j]? with
  | some o => o.after.any fun e => Region.binds md e && e.on == i
  | none => true)

theorem waitsFor_spec {i : Nat} (h : waitsFor md ops F i = true) : ∀ j oj, ops[j]? = some oj → (∀ e ∈ oj.after, Region.binds md e = true → e.on ≠ i) → F j = false := by
  intro j oj hj hno
  unfold waitsFor at h
  rw [List.all_eq_true] at h
  have hlt : j < ops.size := (Array.getElem?_eq_some_iff.1 hj).1
  have := h j (List.mem_range.2 hlt)
  rw [hj] at this
  cases hF : F j with
  | false => rfl
  | true =>
    simp only [hF, Bool.not_true, Bool.false_or, Array.any_eq_true'] at this
    obtain ⟨e, he, h2⟩ := this
    rw [Bool.and_eq_true, beq_iff_eq] at h2
    exact absurd h2.2 (hno e he h2.1)

/-- What may come up waits for nothing that may come up. -/
theorem ready_apart {i j : Nat} {listed : Array Bool} (hi : i ∈ Region.ready md ops listed) {oj : Oper} (hoj : ops[j]? = some oj) (hj : j ∈ Region.ready md ops listed) : ∀ e ∈ oj.after, Region.binds md e = true → e.on ≠ i := by
  intro e he hb heq
  obtain ⟨un, _⟩ := mem_ready.1 hi
  obtain ⟨_, o, ho, all⟩ := mem_ready.1 hj
  obtain rfl : o = oj := Option.some.inj (ho.symm.trans hoj)
  have on := all e he hb
  subst heq
  by_cases hl : e.on < listed.size
  · rw [Array.getD, dif_pos hl] at un on
    exact Bool.false_ne_true (un.symm.trans on)
  · rw [Array.getD, dif_neg hl] at on
    exact Bool.false_ne_true on

/-- That whatever is left waits for 'i' or stays apart from it: as told by the list of what has come up. -/
def Apart (md : Region.Mode) (ops : Array Oper) (i : Nat) (oi : Oper) (listed : Array Bool) : Prop :=
  ∀ j oj, ops[j]? = some oj → j ≠ i → listed.getD j true = false → (∀ e ∈ oj.after, Region.binds md e = true → e.on ≠ i) → oi.apart ops oj = true
theorem Apart.step {i j : Nat} {oi : Oper} {listed : Array Bool} (h : Apart md ops i oi listed) (hj : listed.getD j true = false) : Apart md ops i oi (listed.setIfInBounds j true) := by
  intro k ok hk hki hun hno
  apply h k ok hk hki _ hno
  rcases Nat.decEq j k with ne | rfl
  · rwa [getD_set_ne true ne] at hun
  · exact hj

/-- What yields its value wherever S holds, and for which each of F's operations waits, may be taken first. -/
theorem wpAnyF_first {i : Nat} {oi : Oper} {v : Value} (hi : ops[i]? = some oi) (hsel : ∀ (j : Nat) (o : Oper) cs b, ops[j]? = some o → o.op ≠ .select cs b)
    (hQ : ∀ c a w, Q (.panic c) (a.put oi.dst v) w → Q (.panic c) a w) (hF : ∀ j oj, ops[j]? = some oj → (∀ e ∈ oj.after, Region.binds md e = true → e.on ≠ i) → F j = false) :
    ∀ {fuel : Nat} {listed : Array Bool} {a : Act} {w : World}, Apart md ops i oi listed → i ∈ Region.ready md ops listed → YieldsIf P ops S oi v a → S w →
      wpAnyF P md ops Q S F fuel (listed.setIfInBounds i true) (a.put oi.dst v) w → wpAnyF P md ops Q S F (fuel + 1) listed a w
  | fuel, listed, a, w, hap, hr, hy, hS, H => by
    refine ⟨fun none => absurd (none ▸ hr) List.not_mem_nil, fun j hj => ?_⟩
    by_cases e : j = i
    · rw [e]
      exact hy.wpOp hi hS ⟨fun _ => hS, H⟩
    · have hj' := ready_mono (i := i) hj e
      match fuel, H with
      | 0, H => exact absurd (H.1 ▸ hj') List.not_mem_nil
      | fuel + 1, H =>
        obtain ⟨un, oj, hoj, _⟩ := mem_ready.1 hj
        have no := ready_apart hr hoj hj
        have step := wpOp_putIf hoj (hap j oj hoj e un no) (fun cs b => hsel i oi cs b hi) (fun cs b => hsel j oj cs b hoj) hQ hy (H.2 j hj')
        refine wpOp_mono (fun a' w' out => ?_) step
        obtain ⟨hy', hS', H'⟩ := out
        have sw := hS' (hF j oj hoj no)
        rw [Array.setIfInBounds_comm _ _ (Ne.symm e)] at H'
        exact ⟨hS', wpAnyF_first hi hsel hQ hF (hap.step un) (ready_mono hr (Ne.symm e)) hy' sw H'⟩

theorem wpAnyF_take {i : Nat} {oi : Oper} {v : Value} {fuel : Nat} {listed : Array Bool} {a : Act} {w : World} (hi : ops[i]? = some oi)
    (hs : Region.noSelect ops = true) (hf : Region.free md ops listed i = true) (hr : (Region.ready md ops listed).contains i = true) (hF : waitsFor md ops F i = true)
    (hQ : ∀ c a w, Q (.panic c) (a.put oi.dst v) w → Q (.panic c) a w) (hy : YieldsIf P ops S oi v a) (hS : S w)
    (h : wpAnyF P md ops Q S F fuel (listed.setIfInBounds i true) (a.put oi.dst v) w) : wpAnyF P md ops Q S F (fuel + 1) listed a w :=
  wpAnyF_first hi (Region.noSelect_spec hs) hQ (waitsFor_spec hF) (Region.free_spec hi hf) (by simpa using hr) hy hS h

theorem wpAnyF_done {listed : Array Bool} {a : Act} {w : World} (hr : Region.ready md ops listed = []) (h : Q .normal a w) : ∀ fuel, wpAnyF P md ops Q S F fuel listed a w
  | 0 => ⟨hr, h⟩
  | _ + 1 => ⟨fun _ => h, by rw [hr]; simp⟩

/-- Each of the operations 'rs' comes up next. -/
def AllReadyF (P : Program) (md : Region.Mode) (ops : Array Oper) (Q : Exit → Act → World → Prop) (S : World → Prop) (F : Nat → Bool) (fuel : Nat) (listed : Array Bool) (a : Act) (w : World) (rs : List Nat) : Prop :=
  ∀ i ∈ rs, wpOp P ops Q i (fun a' w' => (F i = false → S w') ∧ wpAnyF P md ops Q S F fuel (listed.setIfInBounds i true) a' w') a w
theorem AllReadyF.nil {fuel : Nat} {listed : Array Bool} {a : Act} {w : World} : AllReadyF P md ops Q S F fuel listed a w [] := fun _ h => by cases h
theorem AllReadyF.cons {fuel : Nat} {listed : Array Bool} {a : Act} {w : World} {i : Nat} {o : Oper} {rs : List Nat} (ho : ops[i]? = some o)
    (h : ∀ K' : Act → World → Prop, Shut (∀ a w, (F i = false → S w) → wpAnyF P md ops Q S F fuel (listed.setIfInBounds i true) a w → K' a w) → if Region.wanted o (yielded ops a.tmps) = true then Oper.wp P o a w K' Q else K' (a.put o.dst undef) w)
    (hs : AllReadyF P md ops Q S F fuel listed a w rs) : AllReadyF P md ops Q S F fuel listed a w (i :: rs) := fun j hj => by
  rcases List.mem_cons.1 hj with rfl | hj
  · exact wpOp_step ho (fun K' hK => h K' (fun a w hS hW => hK a w ⟨hS, hW⟩))
  · exact hs j hj
theorem wpAnyF_ready {rs : List Nat} {fuel : Nat} {listed : Array Bool} {a : Act} {w : World} (hr : Region.ready md ops listed = rs) (hne : rs ≠ [])
    (h : AllReadyF P md ops Q S F fuel listed a w rs) : wpAnyF P md ops Q S F (fuel + 1) listed a w := ⟨fun h0 => absurd (hr ▸ h0) hne, hr ▸ h⟩
theorem wp_region_F {id : Nat} {a : Act} {w : World} (hm : P.follows .mixedOrders = true) (h : S w.drew → wpAnyF P .any ops Q S F ops.size (Array.replicate ops.size false) a w.drew) (hS : S w.drew) : (Code.region id ops true).wp P Q a w :=
  wp_region_any hm (wpAny_of_F _ _ _ _ (h hS))
end

section
variable {ops : Array Oper} {Q : Exit → Act → World → Prop} {S : World → Prop} {F : Nat → Bool} {fuel : Nat} {listed : Array Bool} {a : Act} {w : World} {oi : Oper} {i d : Nat} {rs : List Nat}

theorem mf_start {id : Nat} (S : World → Prop) (F : Nat → Bool) (hS : S w.drew) (h : S w.drew → wpAnyF Try.prog .any ops (NoPanic Q) S F ops.size (Array.replicate ops.size false) a w.drew) : (Code.region id ops true).wp Try.prog Q a w :=
  wp_region_noPanic (wp_region_F (by kernel_rfl) h hS)
theorem mf_yield (v : Value) (hi : ops[i]? = some oi) (hd : oi.dst = some d) (hs : Region.noSelect ops = true) (hf : Region.free .any ops listed i = true) (hr : (Region.ready .any ops listed).contains i = true) (hF : waitsFor .any ops F i = true)
    (hS : S w) (hy : YieldsIf Try.prog ops S oi v a)
    (h : wpAnyF Try.prog .any ops (NoPanic Q) S F fuel (listed.setIfInBounds i true) (a.put (some d) v) w) : wpAnyF Try.prog .any ops (NoPanic Q) S F (fuel + 1) listed a w :=
  wpAnyF_take hi hs hf hr hF (fun _ _ _ h => h) hy hS (by rw [hd]; exact h)
theorem mf_ready (rs : List Nat) (hr : Region.ready .any ops listed = rs) (hne : rs ≠ []) (h : AllReadyF Try.prog .any ops (NoPanic Q) S F fuel listed a w rs) : wpAnyF Try.prog .any ops (NoPanic Q) S F (fuel + 1) listed a w := wpAnyF_ready hr hne h
theorem mf_done (hr : Region.ready .any ops listed = []) (h : Q .normal a w) : wpAnyF Try.prog .any ops (NoPanic Q) S F fuel listed a w := wpAnyF_done hr (NoPanic.normal h) _

/-- A call by its contract, its result known by what holds of it. -/
theorem af_call {f : FuncId} {xs : Array Operand} {ats : Array TypeId} {R : Value → World → Prop} (args : Array Value) (hi : ops[i]? = some oi) (hd : oi.dst = some d) (hw : Region.wanted oi (yielded ops a.tmps) = true)
    (ho : oi.op = .call { callee := .value (.func f), args := xs, argTypes := ats }) (hn : ∀ args w, (callFunc f args).run Try.prog w = .ok (.enter f args) w)
    (ha : xs.map a.eval = args) (hc : Calls Try.prog f args w fun e w' => ∃ v, e = .returned v ∧ R v w') (hR : ∀ v w', R v w' → S w')
    (h : ∀ v w', R v w' → S w' → wpAnyF Try.prog .any ops (NoPanic Q) S F fuel (listed.setIfInBounds i true) (a.put (some d) v) w')
    (hs : AllReadyF Try.prog .any ops (NoPanic Q) S F fuel listed a w rs) : AllReadyF Try.prog .any ops (NoPanic Q) S F fuel listed a w (i :: rs) := by
  refine AllReadyF.cons hi (fun K hK => ?_) hs
  rw [if_pos hw]
  obtain ⟨dst, op, type, pos, after, guard⟩ := oi
  dsimp only at ho hd
  subst ho hd
  unfold Oper.wp
  rw [execOp_call_go]
  have e : (#[] ++ xs.map a.eval ++ #[] : Array Value) = xs.map a.eval := by simp
  rw [e, hn, ha]
  show Calls Try.prog f args w _
  refine hc.mono fun e w' ⟨v, he, hb⟩ => ?_
  subst he
  exact hK.out _ _ (fun _ => hR v w' hb) (h v w' hb (hR v w' hb))

/-- A whole row stored, by one of F. -/
theorem af_store {t t' : TypeId} {x y : Operand} (b : Nat) (A old : Array Value) (hi : ops[i]? = some oi) (hd : oi.dst = none) (hw : Region.wanted oi (yielded ops a.tmps) = true)
    (ho : oi.op = .store t x y) (hF : F i = true) (hx : a.eval x = .pointer (some ⟨b, 0, none⟩)) (hy : a.eval y = .agg A) (hold : At w b old t') (hso : old.size = A.size) (h1 : A.all (·.oneCell') = true) (hsz : (Try.prog.info? t).map (·.size) = some A.size)
    (h : wpAnyF Try.prog .any ops (NoPanic Q) S F fuel (listed.setIfInBounds i true) a (w.setRow b A))
    (hs : AllReadyF Try.prog .any ops (NoPanic Q) S F fuel listed a w rs) : AllReadyF Try.prog .any ops (NoPanic Q) S F fuel listed a w (i :: rs) := by
  refine AllReadyF.cons hi (fun K hK => ?_) hs
  rw [if_pos hw]
  refine wp_store_row t x y ho b A hx hy t' old hold hsz hso h1 ?_
  rw [hd]
  exact hK.out _ _ (fun h => by rw [hF] at h; cases h) h

/-- A number assigned to a slot, by one of F or not. -/
theorem af_assign {v : Value} (hi : ops[i]? = some oi) (hd : oi.dst = some d) (hw : Region.wanted oi (yielded ops a.tmps) = true) (hr : ∀ w, (execOp a.eval oi).run Try.prog w = .ok (.value v) w) (hS : F i = false → S w)
    (h : wpAnyF Try.prog .any ops (NoPanic Q) S F fuel (listed.setIfInBounds i true) (a.put (some d) v) w)
    (hs : AllReadyF Try.prog .any ops (NoPanic Q) S F fuel listed a w rs) : AllReadyF Try.prog .any ops (NoPanic Q) S F fuel listed a w (i :: rs) := by
  refine AllReadyF.cons hi (fun K hK => ?_) hs
  rw [if_pos hw]
  unfold Oper.wp
  rw [hr, Oper.upon_value, hd]
  exact hK.out _ _ hS h
end
end Go.Proofs.Ytbbeekpndhfpjaa.Row
end

section
/- A drawn region's condition on the world made stronger on the way (what was made in the region itself is known from then on). For every package. -/
set_option linter.unusedVariables false
namespace Go.Proofs.Ytbbeekpndhfpjaa.Row
open Go.RowKit

theorem wpAnyF_weaken {P : Program} {md : Region.Mode} {ops : Array Oper} {Q : Exit → Act → World → Prop} {S S' : World → Prop} {F : Nat → Bool} (h : ∀ w, S' w → S w) : ∀ (fuel : Nat) (listed : Array Bool) (a : Act) (w : World), wpAnyF P md ops Q S' F fuel listed a w → wpAnyF P md ops Q S F fuel listed a w
  | 0, _, _, _, h0 => h0
  | fuel + 1, _, _, _, h0 => ⟨h0.1, fun i hi => wpOp_mono (fun a' w' h' => ⟨fun e => h _ (h'.1 e), wpAnyF_weaken h fuel _ a' w' h'.2⟩) (h0.2 i hi)⟩
/-- From here on S'. -/
theorem mf_more {ops : Array Oper} {Q : Exit → Act → World → Prop} {S : World → Prop} {F : Nat → Bool} {fuel : Nat} {listed : Array Bool} {a : Act} {w : World} (S' : World → Prop) (h : ∀ w, S' w → S w) (h' : wpAnyF Try.prog .any ops Q S' F fuel listed a w) : wpAnyF Try.prog .any ops Q S F fuel listed a w :=
  wpAnyF_weaken h fuel listed a w h'
end Go.Proofs.Ytbbeekpndhfpjaa.Row
end
