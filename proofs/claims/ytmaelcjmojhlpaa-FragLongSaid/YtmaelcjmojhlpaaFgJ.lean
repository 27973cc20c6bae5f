/- What stands while a joiner takes pages out of a slice. -/
import Derived.Test.YtmaelcjmojhlpaaFgK
import Derived.Test.YtmaelcjmojhlpaaPaRt
set_option maxRecDepth 100000
set_option linter.unusedVariables false
namespace Go.Proofs.Ytmaelcjmojhlpaa.Fg
open Go.RowKit Go.Proofs.Ytmaelcjmojhlpaa.Row Go.Proofs.Ytmaelcjmojhlpaa.Pa

section
variable {JI : World → Nat → (Nat → Prop) → Jn → Prop} {Z : Array Value} {w w1 w2 : World} {e g N c b : Nat} {r : List UInt8} {j : Jn}
/-- From w on: a slice of a record's pieces, and a joiner beside it. -/
def BkI (JI : World → Nat → (Nat → Prop) → Jn → Prop) (w : World) (e : Nat) (r : List UInt8) (g N c b : Nat) (j : Jn) (w' : World) : Prop :=
  Below w.heap.size w w' ∧ Els w' w.heap.size 36 6 (some ⟨g, 0, none⟩) N c (pcs e r) ∧ ∃ T, JI w' b T j ∧ ¬ T g ∧ ∀ q, T q → w.heap.size ≤ q
theorem BkI.take {j' : Jn} {T T' : Nat → Prop} (h1 : Below w.heap.size w w1) (h2 : Els w1 w.heap.size 36 6 (some ⟨g, 0, none⟩) N c (pcs e r)) (hN : 0 < N) (h4 : ¬ T g) (h5 : ∀ q, T q → w.heap.size ≤ q) (hf : Fr T w1 w2) (hj : JI w2 b T' j') (hT : ∀ k, T' k → T k ∨ w1.heap.size ≤ k) : BkI JI w e r g N c b j' w2 := by
  have hg : g < w1.heap.size := (h2.block g rfl).2
  refine ⟨h1.trans (hf.below h1.size h5), h2.keep fun q hq => ?_, T', hj, fun h => ?_, fun q hq => ?_⟩
  · obtain rfl : g = q := by injection hq
    exact hf.block g hg h4
  · rcases hT g h with h | h
    · exact h4 h
    · omega
  · rcases hT q hq with h | h
    · exact h5 q h
    · exact Nat.le_trans h1.size h
variable (HJ : Joins JI Z)
include HJ
theorem BkI.next (h : BkI JI w e r g N c b j w1) (hb : Below w1.heap.size w1 w2) : BkI JI w e r g N c b j w2 := by
  obtain ⟨h1, h2, T, h3, h4, h5⟩ := h
  refine ⟨below_trans h1 hb h1.size, h2.below hb, T, ?_, h4, h5⟩
  exact HJ.fr _ _ _ _ (fun _ => False) _ h3 (.of_below hb) fun _ _ h => h
/-- A page taken, of a joiner that stands so. -/
theorem take_bk (hN : 0 < N) (h : BkI JI w e r g N c b j w1) (p : Pv) (ho : p.Ok) (hd : p.d.length ≤ maxLen) (hk : (Lit.int .i64 p.k).wf = true) :
    Calls Try.prog 11 #[.pointer (some ⟨b, 0, none⟩), .agg (pgV p)] w1 fun en w' => en = .returned (.tuple #[.string (tx (told j p)), .bool (ended j p), .int .i64 (terr j p : Nat)]) ∧ BkI JI w e r g N c b (jt j p) w' := by
  obtain ⟨h1, h2, T, h3, h4, h5⟩ := h
  exact (HJ.take _ _ _ _ p h3 ho hd hk).mono fun en w' ⟨e1, hf, T', hj, hT⟩ => ⟨e1, BkI.take h1 h2 hN h4 h5 hf hj hT⟩
theorem begun_bk (h : BkI JI w e r g N c b j w1) :
    Calls Try.prog 13 #[.pointer (some ⟨b, 0, none⟩)] w1 fun en w' => en = .returned (.bool j.isSome) ∧ BkI JI w e r g N c b j w' := by
  have h0 := h
  obtain ⟨h1, h2, T, h3, h4, h5⟩ := h
  exact (HJ.begun _ _ _ _ h3).mono fun en w' ⟨e1, hb⟩ => ⟨e1, BkI.next HJ h0 hb⟩
end
/-- The pieces' numbers are small. -/
theorem wf_2 : (Lit.int .i64 2).wf = true := by decide
theorem np_le {n : Nat} (h : n ≤ 4096) : np n ≤ 84 := by unfold np; omega
theorem jn_some {e : Nat} {r : List UInt8} {i : Nat} (h : i < np r.length) : (jn e r (i + 1)).isSome = !decide (i + 1 = np r.length) := by
  unfold jn
  rw [if_neg (by omega)]
  by_cases c : i + 1 = np r.length
  · rw [if_pos c, decide_eq_true c]; rfl
  · rw [if_neg c, decide_eq_false c]; rfl
/-- A head. -/
def hd9 : Pv := ⟨9, 0, 1, false, false, [120]⟩
theorem hd9_right : hd9.right := by unfold hd9 Pv.right; decide
theorem built_9 : Try.prog.built 36 [(0, .int .u32 9), (2, .int .i64 1), (5, .string ⟨#[120]⟩)] = some (pgV hd9) := by kernel_rfl
end Go.Proofs.Ytmaelcjmojhlpaa.Fg
