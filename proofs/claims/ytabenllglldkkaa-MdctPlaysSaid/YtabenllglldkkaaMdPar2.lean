/- Several variables made at once: the rule. -/
import Derived.Test.YtabenllglldkkaaMdPar
namespace Go.Proofs.Ytabenllglldkkaa.Md
open Go.RowKit Go.Proofs.Ytabenllglldkkaa.Ang

/-- What an operation yields: a value, or what the function that it enters hands back. -/
def StepR (o : Oper) (a : Act) (w : World) (R : Value → World → Prop) : Prop :=
  (∃ v w', (execOp a.eval o).run Try.prog w = .ok (.value v) w' ∧ R v w') ∨ ∃ f args, (execOp a.eval o).run Try.prog w = .ok (.enter f args) w ∧ Calls Try.prog f args w fun e w' => ∃ v, e = .returned v ∧ R v w'

theorem stepR_wp {o : Oper} {a0 a : Act} {w : World} {R : Value → World → Prop} {K : Act → World → Prop} {Q : Exit → Act → World → Prop} (he : execOp a.eval o = execOp a0.eval o) (h : StepR o a0 w R)
    (hK : ∀ v w', R v w' → K (a.put o.dst v) w') : o.wp Try.prog a w K Q := by
  unfold Oper.wp
  rw [he]
  rcases h with ⟨v, w', hr, h⟩ | ⟨f, args, hr, h⟩
  · rw [hr]; exact hK v w' h
  · rw [hr]
    refine Calls.mono h fun e w' ⟨v, hv, hR⟩ => ?_
    subst hv
    exact hK v w' hR

theorem step_call {o : Oper} {a : Act} {w : World} {f : FuncId} {xs : Array Operand} {ats : Array TypeId} {v : Value} (args : Array Value) (ho : o.op = .call { callee := .value (.func f), args := xs, argTypes := ats })
    (hn : ∀ args w, (callFunc f args).run Try.prog w = .ok (.enter f args) w) (ha : xs.map a.eval = args) (hc : Calls Try.prog f args w fun e w' => e = .returned v ∧ Below w.heap.size w w') :
    StepR o a w fun u w' => Below w.heap.size w w' ∧ u = v := by
  obtain ⟨dst, op, type, pos, after, guard⟩ := o
  dsimp only at ho
  subst ho
  refine .inr ⟨f, args, ?_, hc.mono fun e w' ⟨he, hb⟩ => ⟨v, he, hb, rfl⟩⟩
  rw [execOp_call_go]
  have e : (#[] ++ xs.map a.eval ++ #[] : Array Value) = xs.map a.eval := by simp
  rw [e, ha, hn]
theorem step_alloc {o : Oper} {a : Act} {w : World} {t : TypeId} {Z : Array Value} (ho : o.op = .alloc t) (hz : ∀ w, (zeroValue t).run Try.prog w = .ok (.agg Z) w) :
    StepR o a w fun u w' => Below w.heap.size w w' ∧ u = .pointer (some ⟨w.heap.size, 0, none⟩) ∧ At w' w.heap.size Z t := by
  refine .inl ⟨_, w.alloc (.cells Z t), ?_, (Below.refl _ _).alloc (Nat.le_refl _) _, rfl, At.new _ _ _⟩
  unfold execOp
  simp only [ho]
  simp [Instr.alloc, hz, go_sem]

theorem count_upd {D : Nat → Bool} {i : Nat} (hi : D i = false) : ∀ (l : List Nat), l.Nodup → i ∈ l → (l.filter fun k => !upd D i true k).length + 1 = (l.filter fun k => !D k).length
  | [], _, h => by cases h
  | k :: l, hn, hm => by
    obtain ⟨hk, hn⟩ := List.nodup_cons.1 hn
    by_cases e : k = i
    · subst e
      have e1 : upd D k true k = true := by unfold upd; rw [if_pos rfl]
      have e2 : l.filter (fun q => !upd D k true q) = l.filter (fun q => !D q) := List.filter_congr fun q hq => by
        have : q ≠ k := fun e => hk (by rw [← e]; exact hq)
        unfold upd
        rw [if_neg this]
      rw [List.filter_cons, List.filter_cons, e1, hi, e2]
      simp
    · have e1 : upd D i true k = D k := by unfold upd; rw [if_neg e]
      have hm' : i ∈ l := by
        rcases List.mem_cons.1 hm with h | h
        · exact absurd h.symm e
        · exact h
      have ih := count_upd hi l hn hm'
      rw [List.filter_cons, List.filter_cons, e1]
      cases D k <;> simp <;> omega

theorem getD_tf {l : Array Bool} {p : Nat} (hp : p < l.size) : l.getD p true = l.getD p false := by simp [hp]
theorem getD_lt {l : Array Bool} {p : Nat} (h : l.getD p false = true) : p < l.size := by
  by_cases hp : p < l.size
  · exact hp
  · simp [hp] at h
theorem getD_set {l : Array Bool} {i j : Nat} (b : Bool) (hi : i < l.size) : (l.setIfInBounds i true).getD j b = if j = i then true else l.getD j b := by
  by_cases e : j = i
  · subst e; rw [if_pos rfl]; simp [hi]
  · rw [if_neg e]
    simp only [Array.getD_eq_getD_getElem?, Array.getElem?_setIfInBounds_ne (fun h => e h.symm)]

/-- What has been yielded: a call's value; a new variable's place. -/
def Yp (W : World) (isA : Nat → Bool) (V : Nat → Value) (Zc : Nat → Array Value) (ty : Nat → TypeId) (i : Nat) (v : Value) (w : World) : Prop :=
  (isA i = false → v = V i) ∧ (isA i = true → ∃ b, v = .pointer (some ⟨b, 0, none⟩) ∧ At w b (Zc i) (ty i) ∧ W.heap.size ≤ b)

section
variable {ops : Array Oper} {Q : Exit → Act → World → Prop} {W : World} {fuel : Nat} {a0 : Act}

theorem par (hd rd : List Nat) (isA : Nat → Bool) (V : Nat → Value) (Zc : Nat → Array Value) (ty : Nat → TypeId) (l1 : Array Bool)
    (hnd : hd.Nodup) (hrd : ∀ i ∈ hd, i ∈ rd) (hdr : ∀ i ∈ rd, i ∈ hd) (hsz : l1.size = ops.size) (hin : ∀ i ∈ hd, l1.getD i false = true)
    (c1 : chkOrder ops hd l1 [] hd = true) (c2 : chkTail ops hd rd l1 = true) (c3 : chkApart ops hd = true) (c4 : Region.noSelect ops = true)
    (hstep : ∀ i ∈ hd, ∀ o, ops[i]? = some o → ∀ w, SB W w → StepR o a0 w fun v w' => Below w.heap.size w w' ∧ (isA i = false → v = V i) ∧ (isA i = true → v = .pointer (some ⟨w.heap.size, 0, none⟩) ∧ At w' w.heap.size (Zc i) (ty i)))
    (fin : ∀ (val : Nat → Value) (w : World), SB W w → (∀ i ∈ hd, Yp W isA V Zc ty i (val i) w) → (∀ i ∈ hd, ∀ k ∈ hd, i ≠ k → isA i = true → isA k = true → val i ≠ val k) →
      wpAnyH Try.prog .any ops (NoPanic Q) (SB W) fuel l1 (hd.foldl (fun a i => a.put (dstOf ops i) (val i)) a0) w) :
    ∀ (n : Nat) (D : Nat → Bool) (val : Nat → Value) (listed : Array Bool) (w : World), (hd.filter fun i => !D i).length = n → listed.size = ops.size → (∀ j, listed.getD j true = if hd.contains j then D j else l1.getD j true) →
      (∀ i ∈ hd, D i = true → ∀ p ∈ direct ops i, listed.getD p false = true) → SB W w → (∀ i ∈ hd, D i = true → Yp W isA V Zc ty i (val i) w) →
      (∀ i ∈ hd, ∀ k ∈ hd, i ≠ k → D i = true → D k = true → isA i = true → isA k = true → val i ≠ val k) →
      wpAnyH Try.prog .any ops (NoPanic Q) (SB W) (n + fuel) listed (partA ops D val hd a0) w := by
  intro n
  have hlt : ∀ i ∈ hd, i < ops.size := fun i hi => by rw [← hsz]; exact getD_lt (hin i hi)
  have hsel := Region.noSelect_spec c4
  induction n with
  | zero =>
    intro D val listed w hc hs hl _ hS hY hV
    have hD : ∀ i ∈ hd, D i = true := fun i hi => by
      cases h : D i
      · have : i ∈ hd.filter fun i => !D i := by simp [hi, h]
        rw [List.length_eq_zero_iff.1 hc] at this
        cases this
      · rfl
    have e : listed = l1 := by
      apply Array.ext (by rw [hs, hsz])
      intro j h1 h2
      have hj := hl j
      have hj2 : (if hd.contains j then D j else l1.getD j true) = l1.getD j true := by
        by_cases hm : hd.contains j = true
        · rw [if_pos hm]
          have hm' : j ∈ hd := by simpa using hm
          rw [hD j hm', getD_tf h2, hin j hm']
        · rw [if_neg hm]
      rw [hj2] at hj
      simpa [h1, h2] using hj
    rw [e, part_full hd a0 hD, Nat.zero_add]
    exact fin val w hS (fun i hi => hY i hi (hD i hi)) (fun i hi k hk hne ha hb => hV i hi k hk hne (hD i hi) (hD k hk) ha hb)
  | succ n ih =>
    intro D val listed w hc hs hl hcl hS hY hV
    have hDl : ∀ i ∈ hd, listed.getD i false = D i := fun i hi => by
      have := hl i
      rw [if_pos (by simpa using hi), getD_tf (by rw [hs]; exact hlt i hi)] at this
      exact this
    have hl1 : ∀ p, hd.contains p = false → l1.getD p false = true → listed.getD p false = true := fun p hp h => by
      have hp2 := getD_lt h
      have := hl p
      rw [if_neg (by rw [hp]; exact Bool.false_ne_true), getD_tf (l := l1) hp2, h, getD_tf (by rw [hs, ← hsz]; exact hp2)] at this
      exact this
    have hex : ∃ i ∈ hd, D i = false := by
      cases hf : hd.filter fun i => !D i with
      | nil => rw [hf] at hc; simp at hc
      | cons i l =>
        have : i ∈ hd.filter fun i => !D i := by rw [hf]; simp
        simp only [List.mem_filter, Bool.not_eq_true'] at this
        exact ⟨i, this.1, this.2⟩
    rw [show n + 1 + fuel = (n + fuel) + 1 by omega]
    refine ⟨fun hr => ?_, fun i hi => ?_⟩
    · obtain ⟨i, hi, h1, h2⟩ := order_first hDl hl1 [] hd (fun i hi => by cases hi) (fun i hi => hi) c1 hex
      have hmem : i ∈ Region.ready .any ops listed := ready_of (Array.getElem?_eq_getElem (hlt i hi)) (by rw [getD_tf (by rw [hs]; exact hlt i hi), hDl i hi, h1]) h2
      rw [hr] at hmem
      cases hmem
    · obtain ⟨hun, o, ho, _⟩ := mem_ready.1 hi
      have hdir := direct_ready hi
      have hih : i ∈ hd := by
        by_cases hm : i ∈ hd
        · exact hm
        · exfalso
          have h1 := hl i
          rw [hun, if_neg (by simpa using hm)] at h1
          have hisz : i < ops.size := by
            rcases Nat.lt_or_ge i ops.size with h | h
            · exact h
            · rw [Array.getElem?_eq_none h] at ho; cases ho
          have h2 : (l1.getD i true || ((direct ops i).any (fun p => !hd.contains p && !l1.getD p true) || waits ops i [] rd)) = true := by
            have := c2
            unfold chkTail at this
            rw [List.all_eq_true] at this
            exact this i (by simpa using hisz)
          rw [← h1, Bool.false_or, Bool.or_eq_true] at h2
          have h2 : waits ops i [] rd = true := h2.resolve_left fun h => by
            rw [List.any_eq_true] at h
            obtain ⟨p, hp, hpn⟩ := h
            simp only [Bool.and_eq_true, Bool.not_eq_true'] at hpn
            have h4 := hdir p hp
            have h5 := hl p
            rw [if_neg (by rw [hpn.1]; exact Bool.false_ne_true), hpn.2, getD_tf (getD_lt h4), h4] at h5
            cases h5
          have h3 := waits_all hdir [] rd (fun _ h => by cases h) (fun q hq hql => hcl q (hdr q hq) (by rw [← hDl q (hdr q hq)]; exact hql)) h2
          obtain ⟨k, hk, hkD⟩ := hex
          have := h3 k (hrd k hk)
          rw [hDl k hk, hkD] at this
          cases this
      have hDi : D i = false := by rw [← hDl i hih, ← getD_tf (by rw [hs]; exact hlt i hih)]; exact hun
      have hap : ∀ k ∈ hd, k ≠ i → ∀ o', ops[k]? = some o' → o.apart ops o' = true ∧ o'.apart ops o = true := fun k hk hne o' ho' => by
        have h := c3
        unfold chkApart at h
        rw [List.all_eq_true] at h
        have h1 := h i hih
        have h2 := h k hk
        simp only [ho, ho', Bool.and_eq_true, List.all_eq_true] at h1 h2
        have h3 := h1.2 k hk
        have h4 := h2.2 i hih
        simp only [ho, ho', Bool.or_eq_true, beq_iff_eq] at h3 h4
        exact ⟨h3.resolve_left (fun e => hne e.symm), h4.resolve_left hne⟩
      have hg : o.guard = none := by
        have h := c3
        unfold chkApart at h
        rw [List.all_eq_true] at h
        have h1 := h i hih
        simp only [ho, Bool.and_eq_true] at h1
        simpa using h1.1
      have hdo : dstOf ops i = o.dst := by unfold dstOf; rw [ho]; rfl
      have hexe : execOp (partA ops D val hd a0).eval o = execOp a0.eval o := part_exec (fun cs b => hsel i o cs b ho) hd a0 fun k hk hkD d hd' => by
        have hki : k ≠ i := fun e => by rw [e, hDi] at hkD; cases hkD
        have hk' := Array.getElem?_eq_getElem (hlt k hk)
        have := (Oper.apart_spec (hap k hk hki _ hk').2).1 d
        unfold dstOf at hd'
        rw [hk'] at hd'
        exact this hd'
      unfold wpOp
      simp only [ho]
      rw [if_pos (by simp [Region.wanted, hg])]
      refine .inl (stepR_wp hexe (hstep i hih o ho w hS) fun v w' ⟨hb, hv1, hv2⟩ => ?_)
      have hS' : SB W w' := below_trans hS hb (Below.size hS)
      have hWs : W.heap.size ≤ w.heap.size := Below.size hS
      refine ⟨hS', ?_⟩
      rw [← hdo, part_step hDi hd a0 hnd hih fun k hk hne d hkd => by
        have hk' := Array.getElem?_eq_getElem (hlt k hk)
        have := (Oper.apart_spec (hap k hk hne _ hk').2).2.1 d
        rw [hdo]
        unfold dstOf at hkd
        rw [hk'] at hkd
        exact this hkd]
      have hi2 : i < listed.size := by rw [hs]; exact hlt i hih
      refine ih (upd D i true) (upd val i v) (listed.setIfInBounds i true) w' ?_ ?_ ?_ ?_ hS' ?_ ?_
      · have := count_upd hDi hd hnd hih
        omega
      · rw [Array.size_setIfInBounds, hs]
      · intro j
        rw [getD_set true hi2]
        by_cases e : j = i
        · subst e
          rw [if_pos rfl, if_pos (by simpa using hih)]
          unfold upd
          rw [if_pos rfl]
        · rw [if_neg e, hl j]
          unfold upd
          rw [if_neg e]
      · intro k hk hkD p hp
        rw [getD_set false hi2]
        by_cases e : p = i
        · rw [if_pos e]
        · rw [if_neg e]
          by_cases e2 : k = i
          · subst e2; exact hdir p hp
          · have : D k = true := by unfold upd at hkD; rw [if_neg e2] at hkD; exact hkD
            exact hcl k hk this p hp
      · intro k hk hkD
        by_cases e : k = i
        · subst e
          have e2 : upd val k v k = v := by unfold upd; rw [if_pos rfl]
          rw [e2]
          exact ⟨hv1, fun ha => ⟨_, (hv2 ha).1, (hv2 ha).2, hWs⟩⟩
        · have e2 : upd val i v k = val k := by unfold upd; rw [if_neg e]
          have hkD' : D k = true := by unfold upd at hkD; rw [if_neg e] at hkD; exact hkD
          rw [e2]
          obtain ⟨y1, y2⟩ := hY k hk hkD'
          exact ⟨y1, fun ha => by obtain ⟨b, h1, h2, h3⟩ := y2 ha; exact ⟨b, h1, h2.below hb h2.lt, h3⟩⟩
      · have key : ∀ k ∈ hd, k ≠ i → D k = true → isA i = true → isA k = true → v ≠ val k := fun k hk hne hkD hai hak => by
          obtain ⟨b, h1, h2, _⟩ := (hY k hk hkD).2 hak
          have h3 := h2.lt
          rw [(hv2 hai).1, h1]
          intro e
          injection e with e
          injection e with e
          injection e with e
          omega
        intro k hk q hq hne hkD hqD hak haq
        by_cases e : k = i
        · subst e
          have e3 : upd val k v k = v := by unfold upd; rw [if_pos rfl]
          have e4 : upd val k v q = val q := by unfold upd; rw [if_neg (fun h => hne h.symm)]
          rw [e3, e4]
          exact key q hq (fun h => hne h.symm) (by unfold upd at hqD; rw [if_neg (fun h => hne h.symm)] at hqD; exact hqD) hak haq
        · have e3 : upd val i v k = val k := by unfold upd; rw [if_neg e]
          have hkD' : D k = true := by unfold upd at hkD; rw [if_neg e] at hkD; exact hkD
          by_cases e2 : q = i
          · subst e2
            have e4 : upd val q v q = v := by unfold upd; rw [if_pos rfl]
            rw [e3, e4]
            exact (key k hk e hkD' haq hak).symm
          · have e4 : upd val i v q = val q := by unfold upd; rw [if_neg e2]
            rw [e3, e4]
            exact hV k hk q hq hne hkD' (by unfold upd at hqD; rw [if_neg e2] at hqD; exact hqD) hak haq
end
end Go.Proofs.Ytabenllglldkkaa.Md
