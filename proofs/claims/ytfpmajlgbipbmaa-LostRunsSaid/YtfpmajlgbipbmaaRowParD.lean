/- Several variables made at once of calls that hand on to one another, 'x, y := f(g(a))': calls and what is made of them, each when what it waits for has come up; new variables, whenever; what is stored comes behind. For every package. -/
import Derived.Test.YtfpmajlgbipbmaaRowPar
set_option linter.unusedVariables false
namespace Go.Proofs.Ytfpmajlgbipbmaa.Row
open Go.RowKit

/-- No guards, and each has a slot of its own. -/
def chkD (ops : Array Oper) (hd : List Nat) : Bool := hd.all fun i => match ops[i]? with
  | some o => o.guard.isNone && (hd.all fun k => i == k || dstOf ops k != o.dst)
  | none => false

section
variable {ops : Array Oper} {D : Nat → Bool} {val : Nat → Value}
theorem eval_put_ne {a : Act} {e : Option Tmp} {v : Value} {d : Tmp} (h : e ≠ some d) : (a.put e v).eval (.tmp d) = a.eval (.tmp d) := by
  cases e with
  | none => rfl
  | some k =>
    have hk : k ≠ d := fun e => h (by rw [e])
    simp [Act.put, Act.eval, Array.getElem?_setIfInBounds_ne hk]
/-- A slot that none of the list writes. -/
theorem part_other {d : Tmp} : ∀ (l : List Nat) (a : Act), (l.all fun k => dstOf ops k != some d) = true → (partA ops D val l a).eval (.tmp d) = a.eval (.tmp d)
  | [], _, _ => rfl
  | k :: l, a, h => by
    simp only [List.all_cons, Bool.and_eq_true, bne_iff_ne] at h
    unfold partA
    simp only [List.foldl_cons]
    have := part_other l (if D k = true then a.put (dstOf ops k) (val k) else a) h.2
    unfold partA at this
    rw [this]
    split
    · exact eval_put_ne h.1
    · rfl
/-- A slot that one of the list has written. -/
theorem part_eval {d : Tmp} (i : Nat) (hi : dstOf ops i = some d) (hD : D i = true) : ∀ (l : List Nat) (a : Act), l.contains i = true → (l.all fun k => k == i || dstOf ops k != some d) = true → decide (d < a.tmps.size) = true → (partA ops D val l a).eval (.tmp d) = val i
  | [], _, h, _, _ => by cases h
  | k :: l, a, hm, h, hs => by
    simp only [List.all_cons, Bool.and_eq_true, Bool.or_eq_true, beq_iff_eq, bne_iff_ne] at h
    rw [decide_eq_true_iff] at hs
    by_cases hl : l.contains i = true
    · unfold partA
      simp only [List.foldl_cons]
      have := part_eval i hi hD l (if D k = true then a.put (dstOf ops k) (val k) else a) hl h.2 (by
        rw [decide_eq_true_iff]
        split
        · unfold Act.put; split
          · simpa using hs
          · exact hs
        · exact hs)
      unfold partA at this
      exact this
    · have e : k = i := by
        simp only [List.contains_iff_mem, List.mem_cons] at hm hl
        exact (hm.resolve_right hl).symm
      subst e
      have hn : (l.all fun q => dstOf ops q != some d) = true := by
        rw [List.all_eq_true]
        intro q hq
        have := h.2
        rw [List.all_eq_true] at this
        have := this q hq
        simp only [Bool.or_eq_true, beq_iff_eq, bne_iff_ne] at this
        rw [bne_iff_ne]
        exact this.resolve_left fun e => hl (by rw [← e]; simpa using hq)
      unfold partA
      simp only [List.foldl_cons]
      have := part_other (D := D) (val := val) l (if D k = true then a.put (dstOf ops k) (val k) else a) hn
      unfold partA at this
      rw [this, if_pos hD, hi]
      simp [Act.put, Act.eval, hs]
end

section
variable {ops : Array Oper} {Q : Exit → Act → World → Prop} {W : World} {fuel : Nat} {a0 : Act}

theorem parD (hd rd : List Nat) (x : Nat) (isA : Nat → Bool) (V : Nat → Value) (Zc : Nat → Array Value) (ty : Nat → TypeId) (l0 l1 : Array Bool)
    (hnd : hd.Nodup) (hrd : ∀ i ∈ hd, i ≠ x → i ∈ rd) (hdr : ∀ i ∈ rd, i ∈ hd) (hsz : l1.size = ops.size) (hin : ∀ i ∈ hd, l1.getD i false = true)
    (hx : x ∈ hd) (hxA : isA x = false) (hl01 : l1 = l0.setIfInBounds x true) (hl0 : l0.getD x true = false) (c6 : Region.free .any ops l0 x = true) (c7 : (Region.ready .any ops l0).contains x = true)
    (c1 : chkOrder ops hd l1 [] hd = true) (c2 : chkTail ops hd rd l1 = true) (c3 : chkD ops hd = true) (c4 : Region.noSelect ops = true)
    (hstep : ∀ i ∈ hd, ∀ o, ops[i]? = some o → ∀ D val w, SB W w → (∀ p ∈ direct ops i, p ∈ hd → D p = true) → (∀ k ∈ hd, D k = true → isA k = false → val k = V k) → StepR o (partA ops D val hd a0) w fun v w' => Below w.heap.size w w' ∧ (isA i = false → v = V i) ∧ (isA i = true → v = .pointer (some ⟨w.heap.size, 0, none⟩) ∧ At w' w.heap.size (Zc i) (ty i)))
    (hlate : ∀ o, ops[x]? = some o → ∀ D val, (∀ p ∈ direct ops x, p ∈ hd → D p = true) → (∀ k ∈ hd, D k = true → isA k = false → val k = V k) → YieldsIf Try.prog ops (SB W) o (V x) (partA ops D val hd a0))
    (fin : ∀ (val : Nat → Value) (w : World), SB W w → (∀ i ∈ hd, Yp W isA V Zc ty i (val i) w) → (∀ i ∈ hd, ∀ k ∈ hd, i ≠ k → isA i = true → isA k = true → val i ≠ val k) →
      wpAnyH Try.prog .any ops (NoPanic Q) (SB W) fuel l1 (hd.foldl (fun a i => a.put (dstOf ops i) (val i)) a0) w) :
    ∀ (n : Nat) (D : Nat → Bool) (val : Nat → Value) (listed : Array Bool) (w : World), (hd.filter fun i => !D i).length = n → listed.size = ops.size → (∀ j, listed.getD j true = if hd.contains j then D j else l1.getD j true) →
      (∀ i ∈ hd, D i = true → ∀ p ∈ direct ops i, listed.getD p false = true) → SB W w → (∀ i ∈ hd, D i = true → Yp W isA V Zc ty i (val i) w) →
      (∀ i ∈ hd, ∀ k ∈ hd, i ≠ k → D i = true → D k = true → isA i = true → isA k = true → val i ≠ val k) →
      wpAnyH Try.prog .any ops (NoPanic Q) (SB W) (n + fuel) listed (partA ops D val hd a0) w := by
  intro n
  have hlt : ∀ i ∈ hd, i < ops.size := fun i hi => by rw [← hsz]; exact getD_lt (hin i hi)
  have hsel := Region.noSelect_spec c4
  induction n with
  | zero =>
    intro D val listed w hc hs hl _ hS hY hV
    have hD : ∀ i ∈ hd, D i = true := fun i hi => by
      cases h : D i
      · have : i ∈ hd.filter fun i => !D i := by simp [hi, h]
        rw [List.length_eq_zero_iff.1 hc] at this
        cases this
      · rfl
    have e : listed = l1 := by
      apply Array.ext (by rw [hs, hsz])
      intro j h1 h2
      have hj := hl j
      have hj2 : (if hd.contains j then D j else l1.getD j true) = l1.getD j true := by
        by_cases hm : hd.contains j = true
        · rw [if_pos hm]
          have hm' : j ∈ hd := by simpa using hm
          rw [hD j hm', getD_tf h2, hin j hm']
        · rw [if_neg hm]
      rw [hj2] at hj
      simpa [h1, h2] using hj
    rw [e, part_full hd a0 hD, Nat.zero_add]
    exact fin val w hS (fun i hi => hY i hi (hD i hi)) (fun i hi k hk hne ha hb => hV i hi k hk hne (hD i hi) (hD k hk) ha hb)
  | succ n ih =>
    intro D val listed w hc hs hl hcl hS hY hV
    have hDl : ∀ i ∈ hd, listed.getD i false = D i := fun i hi => by
      have := hl i
      rw [if_pos (by simpa using hi), getD_tf (by rw [hs]; exact hlt i hi)] at this
      exact this
    have hl1 : ∀ p, hd.contains p = false → l1.getD p false = true → listed.getD p false = true := fun p hp h => by
      have hp2 := getD_lt h
      have := hl p
      rw [if_neg (by rw [hp]; exact Bool.false_ne_true), getD_tf (l := l1) hp2, h, getD_tf (by rw [hs, ← hsz]; exact hp2)] at this
      exact this
    have hex : ∃ i ∈ hd, D i = false := by
      cases hf : hd.filter fun i => !D i with
      | nil => rw [hf] at hc; simp at hc
      | cons i l =>
        have : i ∈ hd.filter fun i => !D i := by rw [hf]; simp
        simp only [List.mem_filter, Bool.not_eq_true'] at this
        exact ⟨i, this.1, this.2⟩
    have hdst : ∀ i ∈ hd, ∀ k ∈ hd, k ≠ i → ∀ d, dstOf ops k = some d → dstOf ops i ≠ some d := fun i hih k hk hne d hkd => by
      have ho := Array.getElem?_eq_getElem (hlt i hih)
      have h := c3
      unfold chkD at h
      rw [List.all_eq_true] at h
      have h1 := h i hih
      simp only [ho, Bool.and_eq_true, List.all_eq_true] at h1
      have h3 := h1.2 k hk
      simp only [Bool.or_eq_true, beq_iff_eq, bne_iff_ne] at h3
      unfold dstOf at hkd ⊢
      rw [ho]
      intro e
      refine h3.resolve_left (fun e => hne e.symm) ?_
      unfold dstOf
      rw [hkd]
      exact e.symm
    have hWs : W.heap.size ≤ w.heap.size := Below.size hS
    have step : ∀ i ∈ hd, D i = false → (∀ p ∈ direct ops i, listed.getD p false = true) → ∀ v w', Below w.heap.size w w' → (isA i = false → v = V i) →
        (isA i = true → v = .pointer (some ⟨w.heap.size, 0, none⟩) ∧ At w' w.heap.size (Zc i) (ty i)) →
        wpAnyH Try.prog .any ops (NoPanic Q) (SB W) (n + fuel) (listed.setIfInBounds i true) ((partA ops D val hd a0).put (dstOf ops i) v) w' := by
      intro i hih hDi hdir v w' hb hv1 hv2
      have hS' : SB W w' := below_trans hS hb (Below.size hS)
      rw [part_step hDi hd a0 hnd hih (hdst i hih)]
      have hi2 : i < listed.size := by rw [hs]; exact hlt i hih
      refine ih (upd D i true) (upd val i v) (listed.setIfInBounds i true) w' ?_ ?_ ?_ ?_ hS' ?_ ?_
      · have := count_upd hDi hd hnd hih
        omega
      · rw [Array.size_setIfInBounds, hs]
      · intro j
        rw [getD_set true hi2]
        by_cases e : j = i
        · subst e
          rw [if_pos rfl, if_pos (by simpa using hih)]
          unfold upd
          rw [if_pos rfl]
        · rw [if_neg e, hl j]
          unfold upd
          rw [if_neg e]
      · intro k hk hkD p hp
        rw [getD_set false hi2]
        by_cases e : p = i
        · rw [if_pos e]
        · rw [if_neg e]
          by_cases e2 : k = i
          · subst e2; exact hdir p hp
          · have : D k = true := by unfold upd at hkD; rw [if_neg e2] at hkD; exact hkD
            exact hcl k hk this p hp
      · intro k hk hkD
        by_cases e : k = i
        · subst e
          have e2 : upd val k v k = v := by unfold upd; rw [if_pos rfl]
          rw [e2]
          exact ⟨hv1, fun ha => ⟨_, (hv2 ha).1, (hv2 ha).2, hWs⟩⟩
        · have e2 : upd val i v k = val k := by unfold upd; rw [if_neg e]
          have hkD' : D k = true := by unfold upd at hkD; rw [if_neg e] at hkD; exact hkD
          rw [e2]
          obtain ⟨y1, y2⟩ := hY k hk hkD'
          exact ⟨y1, fun ha => by obtain ⟨b, h1, h2, h3⟩ := y2 ha; exact ⟨b, h1, h2.below hb h2.lt, h3⟩⟩
      · have key : ∀ k ∈ hd, k ≠ i → D k = true → isA i = true → isA k = true → v ≠ val k := fun k hk hne hkD hai hak => by
          obtain ⟨b, h1, h2, _⟩ := (hY k hk hkD).2 hak
          have h3 := h2.lt
          rw [(hv2 hai).1, h1]
          intro e
          injection e with e
          injection e with e
          injection e with e
          omega
        intro k hk q hq hne hkD hqD hak haq
        by_cases e : k = i
        · subst e
          have e3 : upd val k v k = v := by unfold upd; rw [if_pos rfl]
          have e4 : upd val k v q = val q := by unfold upd; rw [if_neg (fun h => hne h.symm)]
          rw [e3, e4]
          exact key q hq (fun h => hne h.symm) (by unfold upd at hqD; rw [if_neg (fun h => hne h.symm)] at hqD; exact hqD) hak haq
        · have e3 : upd val i v k = val k := by unfold upd; rw [if_neg e]
          have hkD' : D k = true := by unfold upd at hkD; rw [if_neg e] at hkD; exact hkD
          by_cases e2 : q = i
          · subst e2
            have e4 : upd val q v q = v := by unfold upd; rw [if_pos rfl]
            rw [e3, e4]
            exact (key k hk e hkD' haq hak).symm
          · have e4 : upd val i v q = val q := by unfold upd; rw [if_neg e2]
            rw [e3, e4]
            exact hV k hk q hq hne hkD' (by unfold upd at hqD; rw [if_neg e2] at hqD; exact hqD) hak haq
    rw [show n + 1 + fuel = (n + fuel) + 1 by omega]
    by_cases hall : ∀ i ∈ hd, i ≠ x → D i = true
    · have hDx : D x = false := by
        obtain ⟨i, hi, h⟩ := hex
        by_cases e : i = x
        · rw [← e]; exact h
        · rw [hall i hi e] at h; cases h
      have e : listed = l0 := by
        have hs0 : l0.size = ops.size := by rw [← hsz, hl01, Array.size_setIfInBounds]
        have hx0 : x < l0.size := by rw [hs0]; exact hlt x hx
        apply Array.ext (by rw [hs, hs0])
        intro j h1 h2
        have hj := hl j
        by_cases ex : j = x
        · subst ex
          rw [if_pos (by simpa using hx), hDx, ← hl0] at hj
          simpa [h1, h2] using hj
        · have e0 : l1.getD j true = l0.getD j true := by rw [hl01, getD_set true hx0, if_neg ex]
          have hj2 : (if hd.contains j then D j else l1.getD j true) = l1.getD j true := by
            by_cases hm : hd.contains j = true
            · rw [if_pos hm]
              have hm' : j ∈ hd := by simpa using hm
              rw [hall j hm' ex, getD_tf (by rw [hsz]; exact hlt j hm'), hin j hm']
            · rw [if_neg hm]
          rw [hj2, e0] at hj
          simpa [h1, h2] using hj
      have ho := Array.getElem?_eq_getElem (hlt x hx)
      have hr : x ∈ Region.ready .any ops listed := by rw [e]; simpa using c7
      have hdir := direct_ready hr
      have hdo : dstOf ops x = (ops[x]'(hlt x hx)).dst := by unfold dstOf; rw [ho]; rfl
      refine wpAnyH_take ho c4 (by rw [e]; exact c6) (by rw [e]; exact c7) (fun _ _ _ h => h) (hlate _ ho D val (fun p hp hph => by rw [← hDl p hph]; exact hdir p hp) (fun k hk hkD => (hY k hk hkD).1)) hS ?_
      rw [← hdo]
      exact step x hx hDx hdir (V x) w (Below.refl _ _) (fun _ => rfl) (fun h => by rw [hxA] at h; cases h)
    refine ⟨fun hr => ?_, fun i hi => ?_⟩
    · obtain ⟨i, hi, h1, h2⟩ := order_first hDl hl1 [] hd (fun i hi => by cases hi) (fun i hi => hi) c1 hex
      have hmem : i ∈ Region.ready .any ops listed := ready_of (Array.getElem?_eq_getElem (hlt i hi)) (by rw [getD_tf (by rw [hs]; exact hlt i hi), hDl i hi, h1]) h2
      rw [hr] at hmem
      cases hmem
    · obtain ⟨hun, o, ho, _⟩ := mem_ready.1 hi
      have hdir := direct_ready hi
      have hih : i ∈ hd := by
        by_cases hm : i ∈ hd
        · exact hm
        · exfalso
          have h1 := hl i
          rw [hun, if_neg (by simpa using hm)] at h1
          have hisz : i < ops.size := by
            rcases Nat.lt_or_ge i ops.size with h | h
            · exact h
            · rw [Array.getElem?_eq_none h] at ho; cases ho
          have h2 : (l1.getD i true || ((direct ops i).any (fun p => !hd.contains p && !l1.getD p true) || waits ops i [] rd)) = true := by
            have := c2
            unfold chkTail at this
            rw [List.all_eq_true] at this
            exact this i (by simpa using hisz)
          rw [← h1, Bool.false_or, Bool.or_eq_true] at h2
          have h2 : waits ops i [] rd = true := h2.resolve_left fun h => by
            rw [List.any_eq_true] at h
            obtain ⟨p, hp, hpn⟩ := h
            simp only [Bool.and_eq_true, Bool.not_eq_true'] at hpn
            have h4 := hdir p hp
            have h5 := hl p
            rw [if_neg (by rw [hpn.1]; exact Bool.false_ne_true), hpn.2, getD_tf (getD_lt h4), h4] at h5
            cases h5
          have h3 := waits_all hdir [] rd (fun _ h => by cases h) (fun q hq hql => hcl q (hdr q hq) (by rw [← hDl q (hdr q hq)]; exact hql)) h2
          refine hall fun k hk hkx => ?_
          rw [← hDl k hk]
          exact h3 k (hrd k hk hkx)
      have hDi : D i = false := by rw [← hDl i hih, ← getD_tf (by rw [hs]; exact hlt i hih)]; exact hun
      have hg : o.guard = none := by
        have h := c3
        unfold chkD at h
        rw [List.all_eq_true] at h
        have h1 := h i hih
        simp only [ho, Bool.and_eq_true] at h1
        simpa using h1.1
      have hdo : dstOf ops i = o.dst := by unfold dstOf; rw [ho]; rfl
      unfold wpOp
      simp only [ho]
      rw [if_pos (by simp [Region.wanted, hg])]
      refine .inl (stepR_wp rfl (hstep i hih o ho D val w hS (fun p hp hph => by rw [← hDl p hph]; exact hdir p hp) (fun k hk hkD => (hY k hk hkD).1)) fun v w' ⟨hb, hv1, hv2⟩ => ?_)
      have hS' : SB W w' := below_trans hS hb (Below.size hS)
      refine ⟨hS', ?_⟩
      rw [← hdo]
      exact step i hih hDi hdir v w' hb hv1 hv2
end

section
variable {ops : Array Oper} {Q : Exit → Act → World → Prop} {W : World} {fuel : Nat} {a : Act} {w : World} {listed : Array Bool} {oi : Oper}

theorem parD0 (hd rd : List Nat) (x : Nat) (isA : Nat → Bool) (V : Nat → Value) (Zc : Nat → Array Value) (ty : Nat → TypeId) (l0 l1 : Array Bool) (F : Nat) (hF : F = hd.length + fuel)
    (hnd : hd.Nodup) (hrd : ∀ i ∈ hd, i ≠ x → i ∈ rd) (hdr : ∀ i ∈ rd, i ∈ hd) (hsz : l1.size = ops.size) (hin : (hd.all fun i => l1.getD i false) = true)
    (c0 : ((List.range ops.size).all fun j => listed.getD j true == (if hd.contains j then false else l1.getD j true)) = true) (c5 : listed.size = ops.size)
    (hx : x ∈ hd) (hxA : isA x = false) (hl01 : l1 = l0.setIfInBounds x true) (hl0 : l0.getD x true = false) (c6 : Region.free .any ops l0 x = true) (c7 : (Region.ready .any ops l0).contains x = true)
    (c1 : chkOrder ops hd l1 [] hd = true) (c2 : chkTail ops hd rd l1 = true) (c3 : chkD ops hd = true) (c4 : Region.noSelect ops = true) (hS : SB W w)
    (hstep : ∀ i ∈ hd, ∃ o, ops[i]? = some o ∧ ∀ D val w, SB W w → (∀ p ∈ direct ops i, p ∈ hd → D p = true) → (∀ k ∈ hd, D k = true → isA k = false → val k = V k) → StepR o (partA ops D val hd a) w fun v w' => Below w.heap.size w w' ∧ (isA i = false → v = V i) ∧ (isA i = true → v = .pointer (some ⟨w.heap.size, 0, none⟩) ∧ At w' w.heap.size (Zc i) (ty i)))
    (hlate : ∃ o, ops[x]? = some o ∧ ∀ D val, (∀ p ∈ direct ops x, p ∈ hd → D p = true) → (∀ k ∈ hd, D k = true → isA k = false → val k = V k) → YieldsIf Try.prog ops (SB W) o (V x) (partA ops D val hd a))
    (fin : ∀ (val : Nat → Value) (w : World), SB W w → (∀ i ∈ hd, Yp W isA V Zc ty i (val i) w) → (∀ i ∈ hd, ∀ k ∈ hd, i ≠ k → isA i = true → isA k = true → val i ≠ val k) →
      wpAnyH Try.prog .any ops (NoPanic Q) (SB W) fuel l1 (hd.foldl (fun a i => a.put (dstOf ops i) (val i)) a) w) :
    wpAnyH Try.prog .any ops (NoPanic Q) (SB W) F listed a w := by
  have hin' : ∀ i ∈ hd, l1.getD i false = true := fun i hi => by rw [List.all_eq_true] at hin; exact hin i hi
  have e : partA ops (fun _ => false) (fun _ => undef) hd a = a := by
    unfold partA
    generalize hd = l
    induction l with
    | nil => rfl
    | cons k l ih => simp only [List.foldl_cons, Bool.false_eq_true, if_false]; exact ih
  have := parD (ops := ops) (Q := Q) (W := W) (fuel := fuel) (a0 := a) hd rd x isA V Zc ty l0 l1 hnd hrd hdr hsz hin' hx hxA hl01 hl0 c6 c7 c1 c2 c3 c4 (fun i hi o ho => by obtain ⟨o', ho', h⟩ := hstep i hi; rw [ho] at ho'; injection ho' with e; subst e; exact h) (fun o ho => by obtain ⟨o', ho', h⟩ := hlate; rw [ho] at ho'; injection ho' with e; subst e; exact h) fin hd.length (fun _ => false) (fun _ => undef) listed w
    (by simp) c5 (fun j => by
      by_cases hj : j < ops.size
      · rw [List.all_eq_true] at c0
        have := c0 j (by simpa using hj)
        simpa using this
      · have hm : hd.contains j = false := by
          cases hc : hd.contains j
          · rfl
          · exact absurd (by rw [← hsz]; exact getD_lt (hin' j (by simpa using hc))) hj
        rw [hm]
        simp [c5, hsz, hj]) (fun _ _ h => by cases h) hS (fun _ _ h => by cases h) (fun _ _ _ _ _ h => by cases h)
  rw [e] at this
  rw [hF]
  exact this
end

/-- An operation that only reckons. -/
theorem st_run {isA : Nat → Bool} {V : Nat → Value} {Zc : Nat → Array Value} {ty : Nat → TypeId} {i : Nat} {o : Oper} {a : Act} {w : World} {v : Value} (hr : (execOp a.eval o).run Try.prog w = .ok (.value v) w) (hA : isA i = false) (hV : V i = v) :
    StepR o a w fun v w' => Below w.heap.size w w' ∧ (isA i = false → v = V i) ∧ (isA i = true → v = .pointer (some ⟨w.heap.size, 0, none⟩) ∧ At w' w.heap.size (Zc i) (ty i)) :=
  .inl ⟨v, w, hr, Below.refl _ _, fun _ => hV.symm, fun h => by rw [hA] at h; cases h⟩
theorem run_move {o : Oper} {a : Act} {w : World} {y : Operand} {v : Value} (ho : o.op = .move y) (hy : a.eval y = v) : (execOp a.eval o).run Try.prog w = .ok (.value v) w := by
  unfold execOp; simp only [ho, hy]; rfl
theorem run_extract {o : Oper} {a : Act} {w : World} {y : Operand} {n : Nat} {vs : Array Value} {v : Value} (ho : o.op = .extract y n) (hy : a.eval y = .tuple vs) (hv : vs[n]? = some v) : (execOp a.eval o).run Try.prog w = .ok (.value v) w := by
  unfold execOp; simp only [ho, hy]; simp [Instr.extract, hv, go_sem]
theorem map1 {f : Operand → Value} {x : Operand} {v : Value} (h : f x = v) : #[x].map f = #[v] := by simp [h]
theorem map2 {f : Operand → Value} {x1 x2 : Operand} {v1 v2 : Value} (h1 : f x1 = v1) (h2 : f x2 = v2) : #[x1, x2].map f = #[v1, v2] := by simp [h1, h2]
theorem map4 {f : Operand → Value} {x1 x2 x3 x4 : Operand} {v1 v2 v3 v4 : Value} (h1 : f x1 = v1) (h2 : f x2 = v2) (h3 : f x3 = v3) (h4 : f x4 = v4) : #[x1, x2, x3, x4].map f = #[v1, v2, v3, v4] := by simp [h1, h2, h3, h4]
/-- What an operation that only reckons yields. -/
theorem y_of_run {ops : Array Oper} {S : World → Prop} {o : Oper} {a : Act} {v : Value} (hw : Region.wanted o (yielded ops a.tmps) = true) (hr : ∀ w, (execOp a.eval o).run Try.prog w = .ok (.value v) w) : YieldsIf Try.prog ops S o v a := y_run hw hr
end Go.Proofs.Ytfpmajlgbipbmaa.Row
