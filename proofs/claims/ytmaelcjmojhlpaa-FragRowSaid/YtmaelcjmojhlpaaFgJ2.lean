/- A joiner beside whatever else stands (the blocks of G). -/
import Derived.Test.YtmaelcjmojhlpaaFgJ
set_option maxRecDepth 100000
set_option linter.unusedVariables false
namespace Go.Proofs.Ytmaelcjmojhlpaa.Fg
open Go.RowKit Go.Proofs.Ytmaelcjmojhlpaa.Row Go.Proofs.Ytmaelcjmojhlpaa.Pa

section
variable {JI : World → Nat → (Nat → Prop) → Jn → Prop} {Z : Array Value} {w w1 w2 : World} {b : Nat} {j : Jn} {G : Nat → Prop}
/-- From w on: a joiner, none of whose blocks is G's. -/
def JkI (JI : World → Nat → (Nat → Prop) → Jn → Prop) (w : World) (G : Nat → Prop) (b : Nat) (j : Jn) (w' : World) : Prop :=
  Below w.heap.size w w' ∧ ∃ T, JI w' b T j ∧ (∀ q, G q → q < w'.heap.size ∧ ¬ T q) ∧ ∀ q, T q → w.heap.size ≤ q
theorem JkI.below (h : JkI JI w G b j w1) : Below w.heap.size w w1 := h.1
variable (HJ : Joins JI Z)
include HJ
theorem JkI.next (h : JkI JI w G b j w1) (hb : Below w1.heap.size w1 w2) : JkI JI w G b j w2 := by
  obtain ⟨h1, T, h3, h4, h5⟩ := h
  exact ⟨below_trans h1 hb h1.size, T, HJ.fr _ _ _ _ (fun _ => False) _ h3 (.of_below hb) fun _ _ h => h, fun q hq => ⟨Nat.lt_of_lt_of_le (h4 q hq).1 hb.size, (h4 q hq).2⟩, h5⟩
theorem JkI.new (hB : Below w.heap.size w w1) (hG : ∀ q, G q → q < w1.heap.size) : JkI JI w G w1.heap.size none (w1.alloc (.cells Z 32)) := by
  have hb3 : Below w1.heap.size w1 (w1.alloc (.cells Z 32)) := (Below.refl _ _).alloc (Nat.le_refl _) _
  refine ⟨below_trans hB hb3 hB.size, _, HJ.zero w1, fun q hq => ⟨Nat.lt_of_lt_of_le (hG q hq) hb3.size, fun h => ?_⟩, fun q hq => ?_⟩
  · have := hG q hq
    unfold Just at h
    omega
  · unfold Just at hq
    have := hB.size
    omega
theorem take_jk (h : JkI JI w G b j w1) (p : Pv) (ho : p.Ok) (hd : p.d.length ≤ maxLen) (hk : (Lit.int .i64 p.k).wf = true) :
    Calls Try.prog 11 #[.pointer (some ⟨b, 0, none⟩), .agg (pgV p)] w1 fun en w' => en = .returned (.tuple #[.string (tx (told j p)), .bool (ended j p), .int .i64 (terr j p : Nat)]) ∧ JkI JI w G b (jt j p) w' ∧ ∀ q, G q → w'.heap[q]? = w1.heap[q]? := by
  obtain ⟨h1, T, h3, h4, h5⟩ := h
  refine (HJ.take _ _ _ _ p h3 ho hd hk).mono fun en w' ⟨e1, hf, T', hj, hT⟩ => ⟨e1, ⟨h1.trans (hf.below h1.size h5), T', hj, fun q hq => ⟨Nat.lt_of_lt_of_le (h4 q hq).1 hf.size, fun h => ?_⟩, fun q hq => ?_⟩, fun q hq => hf.block q (h4 q hq).1 (h4 q hq).2⟩
  · rcases hT q h with h | h
    · exact (h4 q hq).2 h
    · have := (h4 q hq).1
      omega
  · rcases hT q hq with h | h
    · exact h5 q h
    · exact Nat.le_trans h1.size h
theorem begun_jk (h : JkI JI w G b j w1) :
    Calls Try.prog 13 #[.pointer (some ⟨b, 0, none⟩)] w1 fun en w' => en = .returned (.bool j.isSome) ∧ JkI JI w G b j w' := by
  have h0 := h
  obtain ⟨h1, T, h3, h4, h5⟩ := h
  exact (HJ.begun _ _ _ _ h3).mono fun en w' ⟨e1, hb⟩ => ⟨e1, JkI.next HJ h0 hb⟩
end
/-- A last piece of another epoch is refused. -/
theorem epochs_bad {a e : Nat} {s t : List UInt8} {k : Nat} (hk0 : 0 < k) (hk : k < np s.length) (ht : 50 ≤ t.length) (ha : a ≠ e) : (pc e t (np t.length - 1)).k ≠ 1 ∧ refused (jn a s k) (pc e t (np t.length - 1)) = true := by
  refine ⟨by show (2 : Int) ≠ 1; omega, ?_⟩
  rw [jn_mid hk0 hk]
  show (decide (np t.length - 1 = 0) || decide (e ≠ a) || _) = true
  rw [decide_eq_true (show e ≠ a from fun h => ha h.symm)]
  simp
end Go.Proofs.Ytmaelcjmojhlpaa.Fg
