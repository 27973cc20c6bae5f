/- Several variables made at once, 'x, y := f(a), g(b)': calls that wait for one another, new variables that wait for nobody, in whatever order; what is stored comes behind. -/
import Derived.Test.YtabenllglldkkaaMdMv
namespace Go.Proofs.Ytabenllglldkkaa.Md
open Go.RowKit Go.Proofs.Ytabenllglldkkaa.Ang

def direct (ops : Array Oper) (i : Nat) : List Nat := match ops[i]? with
  | some o => (o.after.toList.filter fun e => Region.binds .any e).map (·.on)
  | none => []
/-- Each waits for earlier ones of the list, and for what has come up already. -/
def chkOrder (ops : Array Oper) (hd : List Nat) (l1 : Array Bool) : List Nat → List Nat → Bool
  | _, [] => true
  | before, i :: rest => (direct ops i).all (fun p => before.contains p || (!hd.contains p && l1.getD p false)) && chkOrder ops hd l1 (i :: before) rest
/-- j waits for all of the list, by itself or by those that it waits for. -/
def waits (ops : Array Oper) (j : Nat) : List Nat → List Nat → Bool
  | _, [] => true
  | acc, i :: rest => ((direct ops j).contains i || acc.any (fun k => (direct ops k).contains i)) && waits ops j (i :: acc) rest
def chkTail (ops : Array Oper) (hd rd : List Nat) (l1 : Array Bool) : Bool := (List.range ops.size).all fun j => l1.getD j true || ((direct ops j).any (fun p => !hd.contains p && !l1.getD p true) || waits ops j [] rd)
def dstOf (ops : Array Oper) (i : Nat) : Option Tmp := (ops[i]?).bind (·.dst)
def chkApart (ops : Array Oper) (hd : List Nat) : Bool := hd.all fun i => match ops[i]? with
  | some o => o.guard.isNone && (hd.all fun k => i == k || match ops[k]? with
    | some o' => o.apart ops o'
    | none => false)
  | none => false

section
variable {ops : Array Oper} {hd : List Nat} {l1 : Array Bool}

theorem direct_ready {listed : Array Bool} {j : Nat} (h : j ∈ Region.ready .any ops listed) : ∀ p ∈ direct ops j, listed.getD p false = true := by
  obtain ⟨_, o, ho, hall⟩ := mem_ready.1 h
  intro p hp
  unfold direct at hp
  rw [ho] at hp
  simp only [List.mem_map, List.mem_filter] at hp
  obtain ⟨e, ⟨he, hb⟩, rfl⟩ := hp
  exact hall e (by simpa using he) hb
theorem ready_of {listed : Array Bool} {j : Nat} {o : Oper} (ho : ops[j]? = some o) (hl : listed.getD j true = false) (h : ∀ p ∈ direct ops j, listed.getD p false = true) : j ∈ Region.ready .any ops listed := by
  refine mem_ready.2 ⟨hl, o, ho, fun e he hb => h e.on ?_⟩
  unfold direct
  rw [ho]
  simp only [List.mem_map, List.mem_filter]
  exact ⟨e, ⟨by simpa using he, hb⟩, rfl⟩

theorem waits_all {listed : Array Bool} {j : Nat} (hj : ∀ p ∈ direct ops j, listed.getD p false = true) : ∀ (acc rd : List Nat), (∀ i ∈ acc, ∀ p ∈ direct ops i, listed.getD p false = true) →
    (∀ i ∈ rd, listed.getD i false = true → ∀ p ∈ direct ops i, listed.getD p false = true) → waits ops j acc rd = true → ∀ i ∈ rd, listed.getD i false = true
  | _, [], _, _, _, i, hi => by cases hi
  | acc, k :: rd, hacc, hcl, h, i, hi => by
    simp only [waits, Bool.and_eq_true, Bool.or_eq_true, List.contains_iff_mem, List.any_eq_true] at h
    have hk : listed.getD k false = true := by
      rcases h.1 with h1 | ⟨q, hq, h1⟩
      · exact hj k h1
      · exact hacc q hq k h1
    rcases List.mem_cons.1 hi with rfl | hi
    · exact hk
    · refine waits_all hj (k :: acc) rd (fun q hq => ?_) (fun q hq => hcl q (by simp [hq])) h.2 i hi
      rcases List.mem_cons.1 hq with rfl | hq
      · exact hcl q (by simp) hk
      · exact hacc q hq

theorem order_first {listed : Array Bool} {D : Nat → Bool} (hD : ∀ i ∈ hd, listed.getD i false = D i) (hl : ∀ p, hd.contains p = false → l1.getD p false = true → listed.getD p false = true) :
    ∀ (before rest : List Nat), (∀ i ∈ before, D i = true ∧ i ∈ hd) → (∀ i ∈ rest, i ∈ hd) → chkOrder ops hd l1 before rest = true → (∃ i ∈ rest, D i = false) → ∃ i ∈ rest, D i = false ∧ ∀ p ∈ direct ops i, listed.getD p false = true
  | _, [], _, _, _, h => by obtain ⟨_, h, _⟩ := h; cases h
  | before, k :: rest, hb, hr, h, hex => by
    simp only [chkOrder, Bool.and_eq_true, List.all_eq_true] at h
    by_cases hk : D k = true
    · obtain ⟨i, hi, h1, h2⟩ := order_first hD hl (k :: before) rest (fun i hi => by
        rcases List.mem_cons.1 hi with rfl | hi
        · exact ⟨hk, hr i (by simp)⟩
        · exact hb i hi) (fun i hi => hr i (by simp [hi])) h.2 (by
        obtain ⟨i, hi, h1⟩ := hex
        rcases List.mem_cons.1 hi with rfl | hi
        · rw [hk] at h1; cases h1
        · exact ⟨i, hi, h1⟩)
      exact ⟨i, by simp [hi], h1, h2⟩
    · refine ⟨k, by simp, by simpa using hk, fun p hp => ?_⟩
      have := h.1 p hp
      simp only [Bool.or_eq_true, List.contains_iff_mem, Bool.and_eq_true, Bool.not_eq_true'] at this
      rcases this with h1 | ⟨h1, h2⟩
      · rw [hD p (hb p h1).2]; exact (hb p h1).1
      · exact hl p h1 h2

/-- The frame when those of which D is true have come up. -/
def partA (ops : Array Oper) (D : Nat → Bool) (val : Nat → Value) (l : List Nat) (a : Act) : Act := l.foldl (fun a i => if D i then a.put (dstOf ops i) (val i) else a) a
def upd {α : Type} (f : Nat → α) (i : Nat) (x : α) (k : Nat) : α := if k = i then x else f k

theorem part_put {D : Nat → Bool} {val : Nat → Value} {i : Nat} {v : Value} : ∀ (l : List Nat) (a : Act), (∀ k ∈ l, ∀ d, dstOf ops k = some d → dstOf ops i ≠ some d) → (partA ops D val l a).put (dstOf ops i) v = partA ops D val l (a.put (dstOf ops i) v)
  | [], _, _ => rfl
  | k :: l, a, h => by
    unfold partA
    simp only [List.foldl_cons]
    by_cases hk : D k = true
    · rw [if_pos hk, if_pos hk]
      have := part_put (D := D) (val := val) (v := v) l (a.put (dstOf ops k) (val k)) fun k hk => h k (by simp [hk])
      unfold partA at this
      rw [this, Act.put_comm a (val k) v (h k (by simp))]
    · rw [if_neg hk, if_neg hk]
      have := part_put (D := D) (val := val) (v := v) l a fun k hk => h k (by simp [hk])
      unfold partA at this
      rw [this]
theorem part_upd {D : Nat → Bool} {val : Nat → Value} {i : Nat} {v : Value} : ∀ (l : List Nat) (a : Act), i ∉ l → partA ops (upd D i true) (upd val i v) l a = partA ops D val l a
  | [], _, _ => rfl
  | k :: l, a, h => by
    have hk : k ≠ i := fun e => h (by simp [e])
    unfold partA
    simp only [List.foldl_cons]
    have e1 : upd D i true k = D k := by unfold upd; rw [if_neg hk]
    have e2 : upd val i v k = val k := by unfold upd; rw [if_neg hk]
    rw [e1, e2]
    exact part_upd l _ fun hm => h (by simp [hm])
theorem part_step {D : Nat → Bool} {val : Nat → Value} {i : Nat} {v : Value} (hi : D i = false) : ∀ (l : List Nat) (a : Act), l.Nodup → i ∈ l → (∀ k ∈ l, k ≠ i → ∀ d, dstOf ops k = some d → dstOf ops i ≠ some d) →
    (partA ops D val l a).put (dstOf ops i) v = partA ops (upd D i true) (upd val i v) l a
  | [], _, _, h, _ => by cases h
  | k :: l, a, hn, hm, h => by
    obtain ⟨hk, hn⟩ := List.nodup_cons.1 hn
    by_cases e : k = i
    · subst e
      show ((k :: l).foldl (fun a i => if D i then a.put (dstOf ops i) (val i) else a) a).put _ _ = (k :: l).foldl (fun a i => if upd D k true i then a.put (dstOf ops i) (upd val k v i) else a) a
      simp only [List.foldl_cons]
      have e1 : upd D k true k = true := by unfold upd; rw [if_pos rfl]
      have e2 : upd val k v k = v := by unfold upd; rw [if_pos rfl]
      rw [e1, e2, if_neg (by rw [hi]; exact Bool.false_ne_true), if_pos rfl]
      have h1 := part_put (ops := ops) (D := D) (val := val) (i := k) (v := v) l a fun q hq => h q (by simp [hq]) (fun e => hk (e ▸ hq))
      have h2 := part_upd (ops := ops) (D := D) (val := val) (i := k) (v := v) l (a.put (dstOf ops k) v) hk
      unfold partA at h1 h2
      rw [h1, h2]
    · have e1 : upd D i true k = D k := by unfold upd; rw [if_neg e]
      have e2 : upd val i v k = val k := by unfold upd; rw [if_neg e]
      have hm' : i ∈ l := by
        rcases List.mem_cons.1 hm with h | h
        · exact absurd h.symm e
        · exact h
      show ((k :: l).foldl (fun a i => if D i then a.put (dstOf ops i) (val i) else a) a).put _ _ = (k :: l).foldl (fun a q => if upd D i true q then a.put (dstOf ops q) (upd val i v q) else a) a
      simp only [List.foldl_cons]
      rw [e1, e2]
      exact part_step hi l _ hn hm' fun q hq => h q (by simp [hq])
theorem part_exec {D : Nat → Bool} {val : Nat → Value} {o : Oper} (hs : ∀ cs b, o.op ≠ .select cs b) : ∀ (l : List Nat) (a : Act), (∀ k ∈ l, D k = true → ∀ d, dstOf ops k = some d → d ∉ o.looksAt ops) → execOp (partA ops D val l a).eval o = execOp a.eval o
  | [], _, _ => rfl
  | k :: l, a, h => by
    unfold partA
    simp only [List.foldl_cons]
    by_cases hk : D k = true
    · rw [if_pos hk]
      exact (part_exec hs l _ fun q hq => h q (by simp [hq])).trans (execOp_put o hs a _ _ (h k (by simp) hk))
    · rw [if_neg hk]
      exact part_exec hs l _ fun q hq => h q (by simp [hq])
theorem part_full {D : Nat → Bool} {val : Nat → Value} : ∀ (l : List Nat) (a : Act), (∀ k ∈ l, D k = true) → partA ops D val l a = l.foldl (fun a i => a.put (dstOf ops i) (val i)) a
  | [], _, _ => rfl
  | k :: l, a, h => by
    unfold partA
    simp only [List.foldl_cons]
    rw [if_pos (h k (by simp))]
    exact part_full l _ fun q hq => h q (by simp [hq])
end
end Go.Proofs.Ytabenllglldkkaa.Md
