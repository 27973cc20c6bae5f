/- Several variables made at once, 'x, y := f(a), g(b)': calls that wait for one another, new variables that wait for nobody, in whatever order; what is stored comes behind. For every package. -/
import Derived.Test.YtfpmajlgbipbmaaRowMv
namespace Go.Proofs.Ytfpmajlgbipbmaa.Row
open Go.RowKit

def direct (ops : Array Oper) (i : Nat) : List Nat := match ops[i]? with
  | some o => (o.after.toList.filter fun e => Region.binds .any e).map (·.on)
  | none => []
/-- Each waits for earlier ones of the list, and for what has come up already. -/
def chkOrder (ops : Array Oper) (hd : List Nat) (l1 : Array Bool) : List Nat → List Nat → Bool
  | _, [] => true
  | before, i :: rest => (direct ops i).all (fun p => before.contains p || (!hd.contains p && l1.getD p false)) && chkOrder ops hd l1 (i :: before) rest
/-- j waits for all of the list, by itself or by those that it waits for. -/
def waits (ops : Array Oper) (j : Nat) : List Nat → List Nat → Bool
  | _, [] => true
  | acc, i :: rest => ((direct ops j).contains i || acc.any (fun k => (direct ops k).contains i)) && waits ops j (i :: acc) rest
def chkTail (ops : Array Oper) (hd rd : List Nat) (l1 : Array Bool) : Bool := (List.range ops.size).all fun j => l1.getD j true || ((direct ops j).any (fun p => !hd.contains p && !l1.getD p true) || waits ops j [] rd)
def dstOf (ops : Array Oper) (i : Nat) : Option Tmp := (ops[i]?).bind (·.dst)
def chkApart (ops : Array Oper) (hd : List Nat) : Bool := hd.all fun i => match ops[i]? with
  | some o => o.guard.isNone && (hd.all fun k => i == k || match ops[k]? with
    | some o' => o.apart ops o'
    | none => false)
  | none => false

section
variable {ops : Array Oper} {hd : List Nat} {l1 : Array Bool}

theorem direct_ready {listed : Array Bool} {j : Nat} (h : j ∈ Region.ready .any ops listed) : ∀ p ∈ direct ops j, listed.getD p false = true := by
  obtain ⟨_, o, ho, hall⟩ := mem_ready.1 h
  intro p hp
  unfold direct at hp
  rw [ho] at hp
  simp only [List.mem_map, List.mem_filter] at hp
  obtain ⟨e, ⟨he, hb⟩, rfl⟩ := hp
  exact hall e (by simpa using he) hb
theorem ready_of {listed : Array Bool} {j : Nat} {o : Oper} (ho : ops[j]? = some o) (hl : listed.getD j true = false) (h : ∀ p ∈ direct ops j, listed.getD p false = true) : j ∈ Region.ready .any ops listed := by
  refine mem_ready.2 ⟨hl, o, ho, fun e he hb => h e.on ?_⟩
  unfold direct
  rw [ho]
  simp only [List.mem_map, List.mem_filter]
  exact ⟨e, ⟨by simpa using he, hb⟩, rfl⟩

theorem waits_all {listed : Array Bool} {j : Nat} (hj : ∀ p ∈ direct ops j, listed.getD p false = true) : ∀ (acc rd : List Nat), (∀ i ∈ acc, ∀ p ∈ direct ops i, listed.getD p false = true) →
    (∀ i ∈ rd, listed.getD i false = true → ∀ p ∈ direct ops i, listed.getD p false = true) → waits ops j acc rd = true → ∀ i ∈ rd, listed.getD i false = true
  | _, [], _, _, _, i, hi => by cases hi
  | acc, k :: rd, hacc, hcl, h, i, hi => by
    simp only [waits, Bool.and_eq_true, Bool.or_eq_true, List.contains_iff_mem, List.any_eq_true] at h
    have hk : listed.getD k false = true := by
      rcases h.1 with h1 | ⟨q, hq, h1⟩
      · exact hj k h1
      · exact hacc q hq k h1
    rcases List.mem_cons.1 hi with rfl | hi
    · exact hk
    · refine waits_all hj (k :: acc) rd (fun q hq => ?_) (fun q hq => hcl q (by simp [hq])) h.2 i hi
      rcases List.mem_cons.1 hq with rfl | hq
      · exact hcl q (by simp) hk
      · exact hacc q hq

theorem order_first {listed : Array Bool} {D : Nat → Bool} (hD : ∀ i ∈ hd, listed.getD i false = D i) (hl : ∀ p, hd.contains p = false → l1.getD p false = true → listed.getD p false = true) :
    ∀ (before rest : List Nat), (∀ i ∈ before, D i = true ∧ i ∈ hd) → (∀ i ∈ rest, i ∈ hd) → chkOrder ops hd l1 before rest = true → (∃ i ∈ rest, D i = false) → ∃ i ∈ rest, D i = false ∧ ∀ p ∈ direct ops i, listed.getD p false = true
  | _, [], _, _, _, h => by obtain ⟨_, h, _⟩ := h; cases h
  | before, k :: rest, hb, hr, h, hex => by
    simp only [chkOrder, Bool.and_eq_true, List.all_eq_true] at h
    by_cases hk : D k = true
    · obtain ⟨i, hi, h1, h2⟩ := order_first hD hl (k :: before) rest (fun i hi => by
        rcases List.mem_cons.1 hi with rfl | hi
        · exact ⟨hk, hr i (by simp)⟩
        · exact hb i hi) (fun i hi => hr i (by simp [hi])) h.2 (by
        obtain ⟨i, hi, h1⟩ := hex
        rcases List.mem_cons.1 hi with rfl | hi
        · rw [hk] at h1; cases h1
        · exact ⟨i, hi, h1⟩)
      exact ⟨i, by simp [hi], h1, h2⟩
    · refine ⟨k, by simp, by simpa using hk, fun p hp => ?_⟩
      have := h.1 p hp
      simp only [Bool.or_eq_true, List.contains_iff_mem, Bool.and_eq_true, Bool.not_eq_true'] at this
      rcases this with h1 | ⟨h1, h2⟩
      · rw [hD p (hb p h1).2]; exact (hb p h1).1
      · exact hl p h1 h2

/-- The frame when those of which D is true have come up. -/
def partA (ops : Array Oper) (D : Nat → Bool) (val : Nat → Value) (l : List Nat) (a : Act) : Act := l.foldl (fun a i => if D i then a.put (dstOf ops i) (val i) else a) a
def upd {α : Type} (f : Nat → α) (i : Nat) (x : α) (k : Nat) : α := if k = i then x else f k

theorem part_put {D : Nat → Bool} {val : Nat → Value} {i : Nat} {v : Value} : ∀ (l : List Nat) (a : Act), (∀ k ∈ l, ∀ d, dstOf ops k = some d → dstOf ops i ≠ some d) → (partA ops D val l a).put (dstOf ops i) v = partA ops D val l (a.put (dstOf ops i) v)
  | [], _, _ => rfl
  | k :: l, a, h => by
    unfold partA
    simp only [List.foldl_cons]
    by_cases hk : D k = true
    · rw [if_pos hk, if_pos hk]
      have := part_put (D := D) (val := val) (v := v) l (a.put (dstOf ops k) (val k)) fun k hk => h k (by simp [hk])
      unfold partA at this
      rw [this, Act.put_comm a (val k) v (h k (by simp))]
    · rw [if_neg hk, if_neg hk]
      have := part_put (D := D) (val := val) (v := v) l a fun k hk => h k (by simp [hk])
      unfold partA at this
      rw [this]
theorem part_upd {D : Nat → Bool} {val : Nat → Value} {i : Nat} {v : Value} : ∀ (l : List Nat) (a : Act), i ∉ l → partA ops (upd D i true) (upd val i v) l a = partA ops D val l a
  | [], _, _ => rfl
  | k :: l, a, h => by
    have hk : k ≠ i := fun e => h (by simp [e])
    unfold partA
    simp only [List.foldl_cons]
    have e1 : upd D i true k = D k := by unfold upd; rw [if_neg hk]
    have e2 : upd val i v k = val k := by unfold upd; rw [if_neg hk]
    rw [e1, e2]
    exact part_upd l _ fun hm => h (by simp [hm])
theorem part_step {D : Nat → Bool} {val : Nat → Value} {i : Nat} {v : Value} (hi : D i = false) : ∀ (l : List Nat) (a : Act), l.Nodup → i ∈ l → (∀ k ∈ l, k ≠ i → ∀ d, dstOf ops k = some d → dstOf ops i ≠ some d) →
    (partA ops D val l a).put (dstOf ops i) v = partA ops (upd D i true) (upd val i v) l a
  | [], _, _, h, _ => by cases h
  | k :: l, a, hn, hm, h => by
    obtain ⟨hk, hn⟩ := List.nodup_cons.1 hn
    by_cases e : k = i
    · subst e
      show ((k :: l).foldl (fun a i => if D i then a.put (dstOf ops i) (val i) else a) a).put _ _ = (k :: l).foldl (fun a i => if upd D k true i then a.put (dstOf ops i) (upd val k v i) else a) a
      simp only [List.foldl_cons]
      have e1 : upd D k true k = true := by unfold upd; rw [if_pos rfl]
      have e2 : upd val k v k = v := by unfold upd; rw [if_pos rfl]
      rw [e1, e2, if_neg (by rw [hi]; exact Bool.false_ne_true), if_pos rfl]
      have h1 := part_put (ops := ops) (D := D) (val := val) (i := k) (v := v) l a fun q hq => h q (by simp [hq]) (fun e => hk (e ▸ hq))
      have h2 := part_upd (ops := ops) (D := D) (val := val) (i := k) (v := v) l (a.put (dstOf ops k) v) hk
      unfold partA at h1 h2
      rw [h1, h2]
    · have e1 : upd D i true k = D k := by unfold upd; rw [if_neg e]
      have e2 : upd val i v k = val k := by unfold upd; rw [if_neg e]
      have hm' : i ∈ l := by
        rcases List.mem_cons.1 hm with h | h
        · exact absurd h.symm e
        · exact h
      show ((k :: l).foldl (fun a i => if D i then a.put (dstOf ops i) (val i) else a) a).put _ _ = (k :: l).foldl (fun a q => if upd D i true q then a.put (dstOf ops q) (upd val i v q) else a) a
      simp only [List.foldl_cons]
      rw [e1, e2]
      exact part_step hi l _ hn hm' fun q hq => h q (by simp [hq])
theorem part_exec {D : Nat → Bool} {val : Nat → Value} {o : Oper} (hs : ∀ cs b, o.op ≠ .select cs b) : ∀ (l : List Nat) (a : Act), (∀ k ∈ l, D k = true → ∀ d, dstOf ops k = some d → d ∉ o.looksAt ops) → execOp (partA ops D val l a).eval o = execOp a.eval o
  | [], _, _ => rfl
  | k :: l, a, h => by
    unfold partA
    simp only [List.foldl_cons]
    by_cases hk : D k = true
    · rw [if_pos hk]
      exact (part_exec hs l _ fun q hq => h q (by simp [hq])).trans (execOp_put o hs a _ _ (h k (by simp) hk))
    · rw [if_neg hk]
      exact part_exec hs l _ fun q hq => h q (by simp [hq])
theorem part_full {D : Nat → Bool} {val : Nat → Value} : ∀ (l : List Nat) (a : Act), (∀ k ∈ l, D k = true) → partA ops D val l a = l.foldl (fun a i => a.put (dstOf ops i) (val i)) a
  | [], _, _ => rfl
  | k :: l, a, h => by
    unfold partA
    simp only [List.foldl_cons]
    rw [if_pos (h k (by simp))]
    exact part_full l _ fun q hq => h q (by simp [hq])
end

/-- What an operation yields: a value, or what the function that it enters hands back. -/
def StepR (o : Oper) (a : Act) (w : World) (R : Value → World → Prop) : Prop :=
  (∃ v w', (execOp a.eval o).run Try.prog w = .ok (.value v) w' ∧ R v w') ∨ ∃ f args, (execOp a.eval o).run Try.prog w = .ok (.enter f args) w ∧ Calls Try.prog f args w fun e w' => ∃ v, e = .returned v ∧ R v w'

theorem stepR_wp {o : Oper} {a0 a : Act} {w : World} {R : Value → World → Prop} {K : Act → World → Prop} {Q : Exit → Act → World → Prop} (he : execOp a.eval o = execOp a0.eval o) (h : StepR o a0 w R)
    (hK : ∀ v w', R v w' → K (a.put o.dst v) w') : o.wp Try.prog a w K Q := by
  unfold Oper.wp
  rw [he]
  rcases h with ⟨v, w', hr, h⟩ | ⟨f, args, hr, h⟩
  · rw [hr]; exact hK v w' h
  · rw [hr]
    refine Calls.mono h fun e w' ⟨v, hv, hR⟩ => ?_
    subst hv
    exact hK v w' hR

theorem step_call {o : Oper} {a : Act} {w : World} {f : FuncId} {xs : Array Operand} {ats : Array TypeId} {v : Value} (args : Array Value) (ho : o.op = .call { callee := .value (.func f), args := xs, argTypes := ats })
    (hn : ∀ args w, (callFunc f args).run Try.prog w = .ok (.enter f args) w) (ha : xs.map a.eval = args) (hc : Calls Try.prog f args w fun e w' => e = .returned v ∧ Below w.heap.size w w') :
    StepR o a w fun u w' => Below w.heap.size w w' ∧ u = v := by
  obtain ⟨dst, op, type, pos, after, guard⟩ := o
  dsimp only at ho
  subst ho
  refine .inr ⟨f, args, ?_, hc.mono fun e w' ⟨he, hb⟩ => ⟨v, he, hb, rfl⟩⟩
  rw [execOp_call_go]
  have e : (#[] ++ xs.map a.eval ++ #[] : Array Value) = xs.map a.eval := by simp
  rw [e, ha, hn]
theorem step_alloc {o : Oper} {a : Act} {w : World} {t : TypeId} {Z : Array Value} (ho : o.op = .alloc t) (hz : ∀ w, (zeroValue t).run Try.prog w = .ok (.agg Z) w) :
    StepR o a w fun u w' => Below w.heap.size w w' ∧ u = .pointer (some ⟨w.heap.size, 0, none⟩) ∧ At w' w.heap.size Z t := by
  refine .inl ⟨_, w.alloc (.cells Z t), ?_, (Below.refl _ _).alloc (Nat.le_refl _) _, rfl, At.new _ _ _⟩
  unfold execOp
  simp only [ho]
  simp [Instr.alloc, hz, go_sem]

theorem count_upd {D : Nat → Bool} {i : Nat} (hi : D i = false) : ∀ (l : List Nat), l.Nodup → i ∈ l → (l.filter fun k => !upd D i true k).length + 1 = (l.filter fun k => !D k).length
  | [], _, h => by cases h
  | k :: l, hn, hm => by
    obtain ⟨hk, hn⟩ := List.nodup_cons.1 hn
    by_cases e : k = i
    · subst e
      have e1 : upd D k true k = true := by unfold upd; rw [if_pos rfl]
      have e2 : l.filter (fun q => !upd D k true q) = l.filter (fun q => !D q) := List.filter_congr fun q hq => by
        have : q ≠ k := fun e => hk (by rw [← e]; exact hq)
        unfold upd
        rw [if_neg this]
      rw [List.filter_cons, List.filter_cons, e1, hi, e2]
      simp
    · have e1 : upd D i true k = D k := by unfold upd; rw [if_neg e]
      have hm' : i ∈ l := by
        rcases List.mem_cons.1 hm with h | h
        · exact absurd h.symm e
        · exact h
      have ih := count_upd hi l hn hm'
      rw [List.filter_cons, List.filter_cons, e1]
      cases D k <;> simp <;> omega

theorem getD_tf {l : Array Bool} {p : Nat} (hp : p < l.size) : l.getD p true = l.getD p false := by simp [hp]
theorem getD_lt {l : Array Bool} {p : Nat} (h : l.getD p false = true) : p < l.size := by
  by_cases hp : p < l.size
  · exact hp
  · simp [hp] at h
theorem getD_set {l : Array Bool} {i j : Nat} (b : Bool) (hi : i < l.size) : (l.setIfInBounds i true).getD j b = if j = i then true else l.getD j b := by
  by_cases e : j = i
  · subst e; rw [if_pos rfl]; simp [hi]
  · rw [if_neg e]
    simp only [Array.getD_eq_getD_getElem?, Array.getElem?_setIfInBounds_ne (fun h => e h.symm)]

/-- What has been yielded: a call's value; a new variable's place. -/
def Yp (W : World) (isA : Nat → Bool) (V : Nat → Value) (Zc : Nat → Array Value) (ty : Nat → TypeId) (i : Nat) (v : Value) (w : World) : Prop :=
  (isA i = false → v = V i) ∧ (isA i = true → ∃ b, v = .pointer (some ⟨b, 0, none⟩) ∧ At w b (Zc i) (ty i) ∧ W.heap.size ≤ b)

section
variable {ops : Array Oper} {Q : Exit → Act → World → Prop} {W : World} {fuel : Nat} {a0 : Act}

theorem par (hd rd : List Nat) (isA : Nat → Bool) (V : Nat → Value) (Zc : Nat → Array Value) (ty : Nat → TypeId) (l1 : Array Bool)
    (hnd : hd.Nodup) (hrd : ∀ i ∈ hd, i ∈ rd) (hdr : ∀ i ∈ rd, i ∈ hd) (hsz : l1.size = ops.size) (hin : ∀ i ∈ hd, l1.getD i false = true)
    (c1 : chkOrder ops hd l1 [] hd = true) (c2 : chkTail ops hd rd l1 = true) (c3 : chkApart ops hd = true) (c4 : Region.noSelect ops = true)
    (hstep : ∀ i ∈ hd, ∀ o, ops[i]? = some o → ∀ w, SB W w → StepR o a0 w fun v w' => Below w.heap.size w w' ∧ (isA i = false → v = V i) ∧ (isA i = true → v = .pointer (some ⟨w.heap.size, 0, none⟩) ∧ At w' w.heap.size (Zc i) (ty i)))
    (fin : ∀ (val : Nat → Value) (w : World), SB W w → (∀ i ∈ hd, Yp W isA V Zc ty i (val i) w) → (∀ i ∈ hd, ∀ k ∈ hd, i ≠ k → isA i = true → isA k = true → val i ≠ val k) →
      wpAnyH Try.prog .any ops (NoPanic Q) (SB W) fuel l1 (hd.foldl (fun a i => a.put (dstOf ops i) (val i)) a0) w) :
    ∀ (n : Nat) (D : Nat → Bool) (val : Nat → Value) (listed : Array Bool) (w : World), (hd.filter fun i => !D i).length = n → listed.size = ops.size → (∀ j, listed.getD j true = if hd.contains j then D j else l1.getD j true) →
      (∀ i ∈ hd, D i = true → ∀ p ∈ direct ops i, listed.getD p false = true) → SB W w → (∀ i ∈ hd, D i = true → Yp W isA V Zc ty i (val i) w) →
      (∀ i ∈ hd, ∀ k ∈ hd, i ≠ k → D i = true → D k = true → isA i = true → isA k = true → val i ≠ val k) →
      wpAnyH Try.prog .any ops (NoPanic Q) (SB W) (n + fuel) listed (partA ops D val hd a0) w := by
  intro n
  have hlt : ∀ i ∈ hd, i < ops.size := fun i hi => by rw [← hsz]; exact getD_lt (hin i hi)
  have hsel := Region.noSelect_spec c4
  induction n with
  | zero =>
    intro D val listed w hc hs hl _ hS hY hV
    have hD : ∀ i ∈ hd, D i = true := fun i hi => by
      cases h : D i
      · have : i ∈ hd.filter fun i => !D i := by simp [hi, h]
        rw [List.length_eq_zero_iff.1 hc] at this
        cases this
      · rfl
    have e : listed = l1 := by
      apply Array.ext (by rw [hs, hsz])
      intro j h1 h2
      have hj := hl j
      have hj2 : (if hd.contains j then D j else l1.getD j true) = l1.getD j true := by
        by_cases hm : hd.contains j = true
        · rw [if_pos hm]
          have hm' : j ∈ hd := by simpa using hm
          rw [hD j hm', getD_tf h2, hin j hm']
        · rw [if_neg hm]
      rw [hj2] at hj
      simpa [h1, h2] using hj
    rw [e, part_full hd a0 hD, Nat.zero_add]
    exact fin val w hS (fun i hi => hY i hi (hD i hi)) (fun i hi k hk hne ha hb => hV i hi k hk hne (hD i hi) (hD k hk) ha hb)
  | succ n ih =>
    intro D val listed w hc hs hl hcl hS hY hV
    have hDl : ∀ i ∈ hd, listed.getD i false = D i := fun i hi => by
      have := hl i
      rw [if_pos (by simpa using hi), getD_tf (by rw [hs]; exact hlt i hi)] at this
      exact this
    have hl1 : ∀ p, hd.contains p = false → l1.getD p false = true → listed.getD p false = true := fun p hp h => by
      have hp2 := getD_lt h
      have := hl p
      rw [if_neg (by rw [hp]; exact Bool.false_ne_true), getD_tf (l := l1) hp2, h, getD_tf (by rw [hs, ← hsz]; exact hp2)] at this
      exact this
    have hex : ∃ i ∈ hd, D i = false := by
      cases hf : hd.filter fun i => !D i with
      | nil => rw [hf] at hc; simp at hc
      | cons i l =>
        have : i ∈ hd.filter fun i => !D i := by rw [hf]; simp
        simp only [List.mem_filter, Bool.not_eq_true'] at this
        exact ⟨i, this.1, this.2⟩
    rw [show n + 1 + fuel = (n + fuel) + 1 by omega]
    refine ⟨fun hr => ?_, fun i hi => ?_⟩
    · obtain ⟨i, hi, h1, h2⟩ := order_first hDl hl1 [] hd (fun i hi => by cases hi) (fun i hi => hi) c1 hex
      have hmem : i ∈ Region.ready .any ops listed := ready_of (Array.getElem?_eq_getElem (hlt i hi)) (by rw [getD_tf (by rw [hs]; exact hlt i hi), hDl i hi, h1]) h2
      rw [hr] at hmem
      cases hmem
    · obtain ⟨hun, o, ho, _⟩ := mem_ready.1 hi
      have hdir := direct_ready hi
      have hih : i ∈ hd := by
        by_cases hm : i ∈ hd
        · exact hm
        · exfalso
          have h1 := hl i
          rw [hun, if_neg (by simpa using hm)] at h1
          have hisz : i < ops.size := by
            rcases Nat.lt_or_ge i ops.size with h | h
            · exact h
            · rw [Array.getElem?_eq_none h] at ho; cases ho
          have h2 : (l1.getD i true || ((direct ops i).any (fun p => !hd.contains p && !l1.getD p true) || waits ops i [] rd)) = true := by
            have := c2
            unfold chkTail at this
            rw [List.all_eq_true] at this
            exact this i (by simpa using hisz)
          rw [← h1, Bool.false_or, Bool.or_eq_true] at h2
          have h2 : waits ops i [] rd = true := h2.resolve_left fun h => by
            rw [List.any_eq_true] at h
            obtain ⟨p, hp, hpn⟩ := h
            simp only [Bool.and_eq_true, Bool.not_eq_true'] at hpn
            have h4 := hdir p hp
            have h5 := hl p
            rw [if_neg (by rw [hpn.1]; exact Bool.false_ne_true), hpn.2, getD_tf (getD_lt h4), h4] at h5
            cases h5
          have h3 := waits_all hdir [] rd (fun _ h => by cases h) (fun q hq hql => hcl q (hdr q hq) (by rw [← hDl q (hdr q hq)]; exact hql)) h2
          obtain ⟨k, hk, hkD⟩ := hex
          have := h3 k (hrd k hk)
          rw [hDl k hk, hkD] at this
          cases this
      have hDi : D i = false := by rw [← hDl i hih, ← getD_tf (by rw [hs]; exact hlt i hih)]; exact hun
      have hap : ∀ k ∈ hd, k ≠ i → ∀ o', ops[k]? = some o' → o.apart ops o' = true ∧ o'.apart ops o = true := fun k hk hne o' ho' => by
        have h := c3
        unfold chkApart at h
        rw [List.all_eq_true] at h
        have h1 := h i hih
        have h2 := h k hk
        simp only [ho, ho', Bool.and_eq_true, List.all_eq_true] at h1 h2
        have h3 := h1.2 k hk
        have h4 := h2.2 i hih
        simp only [ho, ho', Bool.or_eq_true, beq_iff_eq] at h3 h4
        exact ⟨h3.resolve_left (fun e => hne e.symm), h4.resolve_left hne⟩
      have hg : o.guard = none := by
        have h := c3
        unfold chkApart at h
        rw [List.all_eq_true] at h
        have h1 := h i hih
        simp only [ho, Bool.and_eq_true] at h1
        simpa using h1.1
      have hdo : dstOf ops i = o.dst := by unfold dstOf; rw [ho]; rfl
      have hexe : execOp (partA ops D val hd a0).eval o = execOp a0.eval o := part_exec (fun cs b => hsel i o cs b ho) hd a0 fun k hk hkD d hd' => by
        have hki : k ≠ i := fun e => by rw [e, hDi] at hkD; cases hkD
        have hk' := Array.getElem?_eq_getElem (hlt k hk)
        have := (Oper.apart_spec (hap k hk hki _ hk').2).1 d
        unfold dstOf at hd'
        rw [hk'] at hd'
        exact this hd'
      unfold wpOp
      simp only [ho]
      rw [if_pos (by simp [Region.wanted, hg])]
      refine .inl (stepR_wp hexe (hstep i hih o ho w hS) fun v w' ⟨hb, hv1, hv2⟩ => ?_)
      have hS' : SB W w' := below_trans hS hb (Below.size hS)
      have hWs : W.heap.size ≤ w.heap.size := Below.size hS
      refine ⟨hS', ?_⟩
      rw [← hdo, part_step hDi hd a0 hnd hih fun k hk hne d hkd => by
        have hk' := Array.getElem?_eq_getElem (hlt k hk)
        have := (Oper.apart_spec (hap k hk hne _ hk').2).2.1 d
        rw [hdo]
        unfold dstOf at hkd
        rw [hk'] at hkd
        exact this hkd]
      have hi2 : i < listed.size := by rw [hs]; exact hlt i hih
      refine ih (upd D i true) (upd val i v) (listed.setIfInBounds i true) w' ?_ ?_ ?_ ?_ hS' ?_ ?_
      · have := count_upd hDi hd hnd hih
        omega
      · rw [Array.size_setIfInBounds, hs]
      · intro j
        rw [getD_set true hi2]
        by_cases e : j = i
        · subst e
          rw [if_pos rfl, if_pos (by simpa using hih)]
          unfold upd
          rw [if_pos rfl]
        · rw [if_neg e, hl j]
          unfold upd
          rw [if_neg e]
      · intro k hk hkD p hp
        rw [getD_set false hi2]
        by_cases e : p = i
        · rw [if_pos e]
        · rw [if_neg e]
          by_cases e2 : k = i
          · subst e2; exact hdir p hp
          · have : D k = true := by unfold upd at hkD; rw [if_neg e2] at hkD; exact hkD
            exact hcl k hk this p hp
      · intro k hk hkD
        by_cases e : k = i
        · subst e
          have e2 : upd val k v k = v := by unfold upd; rw [if_pos rfl]
          rw [e2]
          exact ⟨hv1, fun ha => ⟨_, (hv2 ha).1, (hv2 ha).2, hWs⟩⟩
        · have e2 : upd val i v k = val k := by unfold upd; rw [if_neg e]
          have hkD' : D k = true := by unfold upd at hkD; rw [if_neg e] at hkD; exact hkD
          rw [e2]
          obtain ⟨y1, y2⟩ := hY k hk hkD'
          exact ⟨y1, fun ha => by obtain ⟨b, h1, h2, h3⟩ := y2 ha; exact ⟨b, h1, h2.below hb h2.lt, h3⟩⟩
      · have key : ∀ k ∈ hd, k ≠ i → D k = true → isA i = true → isA k = true → v ≠ val k := fun k hk hne hkD hai hak => by
          obtain ⟨b, h1, h2, _⟩ := (hY k hk hkD).2 hak
          have h3 := h2.lt
          rw [(hv2 hai).1, h1]
          intro e
          injection e with e
          injection e with e
          injection e with e
          omega
        intro k hk q hq hne hkD hqD hak haq
        by_cases e : k = i
        · subst e
          have e3 : upd val k v k = v := by unfold upd; rw [if_pos rfl]
          have e4 : upd val k v q = val q := by unfold upd; rw [if_neg (fun h => hne h.symm)]
          rw [e3, e4]
          exact key q hq (fun h => hne h.symm) (by unfold upd at hqD; rw [if_neg (fun h => hne h.symm)] at hqD; exact hqD) hak haq
        · have e3 : upd val i v k = val k := by unfold upd; rw [if_neg e]
          have hkD' : D k = true := by unfold upd at hkD; rw [if_neg e] at hkD; exact hkD
          by_cases e2 : q = i
          · subst e2
            have e4 : upd val q v q = v := by unfold upd; rw [if_pos rfl]
            rw [e3, e4]
            exact (key k hk e hkD' haq hak).symm
          · have e4 : upd val i v q = val q := by unfold upd; rw [if_neg e2]
            rw [e3, e4]
            exact hV k hk q hq hne hkD' (by unfold upd at hqD; rw [if_neg e2] at hqD; exact hqD) hak haq
end

theorem StepR.mono {o : Oper} {a : Act} {w : World} {R R' : Value → World → Prop} (h : StepR o a w R) (hR : ∀ v w', R v w' → R' v w') : StepR o a w R' := by
  rcases h with ⟨v, w', hr, h⟩ | ⟨f, args, hr, h⟩
  · exact .inl ⟨v, w', hr, hR v w' h⟩
  · exact .inr ⟨f, args, hr, h.mono fun e w' ⟨v, hv, hh⟩ => ⟨v, hv, hR v w' hh⟩⟩
theorem st_call {isA : Nat → Bool} {V : Nat → Value} {Zc : Nat → Array Value} {ty : Nat → TypeId} {i : Nat} {o : Oper} {a : Act} {w : World} {f : FuncId} {xs : Array Operand} {ats : Array TypeId} {v : Value} (args : Array Value)
    (ho : o.op = .call { callee := .value (.func f), args := xs, argTypes := ats }) (hA : isA i = false) (hV : V i = v)
    (hn : ∀ args w, (callFunc f args).run Try.prog w = .ok (.enter f args) w) (ha : xs.map a.eval = args) (hc : Calls Try.prog f args w fun e w' => e = .returned v ∧ Below w.heap.size w w') :
    StepR o a w fun v w' => Below w.heap.size w w' ∧ (isA i = false → v = V i) ∧ (isA i = true → v = .pointer (some ⟨w.heap.size, 0, none⟩) ∧ At w' w.heap.size (Zc i) (ty i)) :=
  (step_call args ho hn ha hc).mono fun _ _ ⟨h1, h2⟩ => ⟨h1, fun _ => h2.trans hV.symm, fun h => by rw [hA] at h; cases h⟩
theorem st_alloc {isA : Nat → Bool} {V : Nat → Value} {Zc : Nat → Array Value} {ty : Nat → TypeId} {i : Nat} {o : Oper} {a : Act} {w : World} {t : TypeId} {Z : Array Value} (ho : o.op = .alloc t) (hA : isA i = true) (hZ : Zc i = Z) (ht : ty i = t)
    (hz : ∀ w, (zeroValue t).run Try.prog w = .ok (.agg Z) w) :
    StepR o a w fun v w' => Below w.heap.size w w' ∧ (isA i = false → v = V i) ∧ (isA i = true → v = .pointer (some ⟨w.heap.size, 0, none⟩) ∧ At w' w.heap.size (Zc i) (ty i)) :=
  (step_alloc ho hz).mono fun _ _ ⟨h1, h2, h3⟩ => ⟨h1, (fun h => by rw [hA] at h; cases h), fun _ => ⟨h2, by rw [hZ, ht]; exact h3⟩⟩

section
variable {ops : Array Oper} {Q : Exit → Act → World → Prop} {W : World} {fuel : Nat} {a : Act} {w : World} {listed : Array Bool} {oi : Oper}

theorem par0 (hd rd : List Nat) (isA : Nat → Bool) (V : Nat → Value) (Zc : Nat → Array Value) (ty : Nat → TypeId) (l1 : Array Bool) (F : Nat) (hF : F = hd.length + fuel)
    (hnd : hd.Nodup) (hrd : ∀ i ∈ hd, i ∈ rd) (hdr : ∀ i ∈ rd, i ∈ hd) (hsz : l1.size = ops.size) (hin : (hd.all fun i => l1.getD i false) = true)
    (c0 : ((List.range ops.size).all fun j => listed.getD j true == (if hd.contains j then false else l1.getD j true)) = true) (c5 : listed.size = ops.size)
    (c1 : chkOrder ops hd l1 [] hd = true) (c2 : chkTail ops hd rd l1 = true) (c3 : chkApart ops hd = true) (c4 : Region.noSelect ops = true) (hS : SB W w)
    (hstep : ∀ i ∈ hd, ∃ o, ops[i]? = some o ∧ ∀ w, SB W w → StepR o a w fun v w' => Below w.heap.size w w' ∧ (isA i = false → v = V i) ∧ (isA i = true → v = .pointer (some ⟨w.heap.size, 0, none⟩) ∧ At w' w.heap.size (Zc i) (ty i)))
    (fin : ∀ (val : Nat → Value) (w : World), SB W w → (∀ i ∈ hd, Yp W isA V Zc ty i (val i) w) → (∀ i ∈ hd, ∀ k ∈ hd, i ≠ k → isA i = true → isA k = true → val i ≠ val k) →
      wpAnyH Try.prog .any ops (NoPanic Q) (SB W) fuel l1 (hd.foldl (fun a i => a.put (dstOf ops i) (val i)) a) w) :
    wpAnyH Try.prog .any ops (NoPanic Q) (SB W) F listed a w := by
  have hin' : ∀ i ∈ hd, l1.getD i false = true := fun i hi => by rw [List.all_eq_true] at hin; exact hin i hi
  have e : partA ops (fun _ => false) (fun _ => undef) hd a = a := by
    unfold partA
    generalize hd = l
    induction l with
    | nil => rfl
    | cons k l ih => simp only [List.foldl_cons, Bool.false_eq_true, if_false]; exact ih
  have := par (ops := ops) (Q := Q) (W := W) (fuel := fuel) (a0 := a) hd rd isA V Zc ty l1 hnd hrd hdr hsz hin' c1 c2 c3 c4 (fun i hi o ho => by obtain ⟨o', ho', h⟩ := hstep i hi; rw [ho] at ho'; injection ho' with e; subst e; exact h) fin hd.length (fun _ => false) (fun _ => undef) listed w
    (by simp) c5 (fun j => by
      by_cases hj : j < ops.size
      · rw [List.all_eq_true] at c0
        have := c0 j (by simpa using hj)
        simpa using this
      · have hm : hd.contains j = false := by
          cases hc : hd.contains j
          · rfl
          · exact absurd (by rw [← hsz]; exact getD_lt (hin' j (by simpa using hc))) hj
        rw [hm]
        simp [c5, hsz, hj]) (fun _ _ h => by cases h) hS (fun _ _ h => by cases h) (fun _ _ _ _ _ h => by cases h)
  rw [e] at this
  rw [hF]
  exact this

theorem mv_store {i : Nat} {t t' : TypeId} {x y : Operand} (b : Nat) (A old : Array Value) (hi : ops[i]? = some oi) (hd : oi.dst = none) (hr : Region.ready .any ops listed = [i]) (hw : Region.wanted oi (yielded ops a.tmps) = true)
    (ho : oi.op = .store t x y) (hx : a.eval x = .pointer (some ⟨b, 0, none⟩)) (hy : a.eval y = .agg A) (hold : At w b old t') (hs : old.size = A.size) (h1 : A.all (·.oneCell') = true) (hsz : (Try.prog.info? t).map (·.size) = some A.size)
    (hb : W.heap.size ≤ b) (hS : SB W w) (h : SB W (w.setRow b A) → wpAnyH Try.prog .any ops (NoPanic Q) (SB W) fuel (listed.setIfInBounds i true) a (w.setRow b A)) :
    wpAnyH Try.prog .any ops (NoPanic Q) (SB W) (fuel + 1) listed a w := by
  refine wpAnyH_ready (rs := [i]) hr (by simp) ?_
  refine AllReadyH.cons hi (fun K hK => ?_) AllReadyH.nil
  rw [if_pos hw]
  refine wp_store_row t x y ho b A hx hy t' old hold hsz hs h1 ?_
  rw [hd]
  have hS' : SB W (w.setRow b A) := below_setRow' hS hb A
  exact hK.out _ _ hS' h
end

end Go.Proofs.Ytfpmajlgbipbmaa.Row
