/- Rows that stand in blocks of one's own, many at once: Hv w L w' (from w to w' all that stood stands, and each of L's blocks holds its row). For every package. -/
import Derived.Test.YteahbdnnieaaaaaRowT
set_option linter.unusedVariables false
namespace Go.Proofs.Yteahbdnnieaaaaa.Row
open Go.RowKit

/-- All that stood in w stands in w', and there lie L's rows, in blocks that are newer than w, none twice. -/
def Hv (w : World) (L : List (Nat × Array Value × TypeId)) (w' : World) : Prop :=
  Below w.heap.size w w' ∧ (∀ x ∈ L, At w' x.1 x.2.1 x.2.2 ∧ w.heap.size ≤ x.1) ∧ L.Pairwise fun x y => x.1 ≠ y.1
section
variable {w w1 w2 : World} {L : List (Nat × Array Value × TypeId)} {i b : Nat} {A C : Array Value} {t : TypeId}
theorem Hv.start (w : World) : Hv w [] w := ⟨Below.refl _ _, (fun x hx => by cases hx), List.Pairwise.nil⟩
theorem Hv.at (h : Hv w L w1) (hi : L[i]? = some (b, A, t)) : At w1 b A t := (h.2.1 _ (List.mem_of_getElem? hi)).1
theorem Hv.ge (h : Hv w L w1) (hi : L[i]? = some (b, A, t)) : w.heap.size ≤ b := (h.2.1 _ (List.mem_of_getElem? hi)).2
theorem Hv.below (h : Hv w L w1) : Below w.heap.size w w1 := h.1
theorem Hv.next (h : Hv w L w1) (hb : Below w1.heap.size w1 w2) : Hv w L w2 :=
  ⟨below_trans h.1 hb h.1.size, fun x hx => ⟨(h.2.1 x hx).1.below hb (h.2.1 x hx).1.lt, (h.2.1 x hx).2⟩, h.2.2⟩
theorem Hv.drew (h : Hv w L w1) : Hv w L w1.drew := h.next (Below.refl _ _).drew
theorem Hv.alloc (h : Hv w L w1) (A : Array Value) (t : TypeId) : Hv w (L ++ [(w1.heap.size, A, t)]) (w1.alloc (.cells A t)) := by
  refine ⟨h.1.alloc h.1.size _, fun x hx => ?_, ?_⟩
  · rcases List.mem_append.1 hx with hx | hx
    · exact ⟨(h.2.1 x hx).1.alloc _, (h.2.1 x hx).2⟩
    · obtain rfl : x = (w1.heap.size, A, t) := by simpa using hx
      exact ⟨At.new _ _ _, h.1.size⟩
  · rw [List.pairwise_append]
    refine ⟨h.2.2, List.pairwise_singleton _ _, fun x hx y hy => ?_⟩
    obtain rfl : y = (w1.heap.size, A, t) := by simpa using hy
    exact Nat.ne_of_lt (h.2.1 x hx).1.lt
/-- One row is another one now. -/
theorem Hv.put (h : Hv w L w1) (hi : L[i]? = some (b, A, t)) (hB : Below w.heap.size w w2) (hA : At w2 b C t) (ho : ∀ k D u, k ≠ b → At w1 k D u → At w2 k D u) : Hv w (L.set i (b, C, t)) w2 := by
  have hlt : i < L.length := (List.getElem?_eq_some_iff.1 hi).1
  have e : L[i] = (b, A, t) := (List.getElem?_eq_some_iff.1 hi).2
  refine ⟨hB, fun x hx => ?_, ?_⟩
  · obtain ⟨j, hj, rfl⟩ := List.mem_iff_getElem.1 hx
    rw [List.length_set] at hj
    by_cases c : i = j
    · subst c
      rw [List.getElem_set_self]
      exact ⟨hA, h.ge hi⟩
    · rw [List.getElem_set_ne c]
      have hm := h.2.1 _ (List.getElem_mem hj)
      refine ⟨ho _ _ _ ?_ hm.1, hm.2⟩
      have := List.pairwise_iff_getElem.1 h.2.2
      rcases Nat.lt_or_gt_of_ne c with c | c
      · have := this i j hlt hj c
        rw [e] at this
        exact fun e => this e.symm
      · have := this j i hj hlt c
        rw [e] at this
        exact this
  · have hm : (L.set i (b, C, t)).map (·.1) = L.map (·.1) := by
      rw [List.map_set]
      apply List.ext_getElem?
      intro j
      rw [List.getElem?_set]
      split
      · rename_i c; subst c
        rw [if_pos (by rw [List.length_map]; exact hlt), List.getElem?_map, hi]; rfl
      · rfl
    have key : ∀ (M N : List (Nat × Array Value × TypeId)), M.map (·.1) = N.map (·.1) → N.Pairwise (fun x y => x.1 ≠ y.1) → M.Pairwise (fun x y => x.1 ≠ y.1) := fun M N e hN => by
      rw [← List.pairwise_map (f := fun x : Nat × Array Value × TypeId => x.1) (R := fun x y => x ≠ y)] at hN ⊢
      rw [e]; exact hN
    exact key _ _ hm h.2.2
theorem Hv.row (h : Hv w L w1) (hi : L[i]? = some (b, A, t)) (C : Array Value) : Hv w (L.set i (b, C, t)) (w1.setRow b C) :=
  h.put hi (below_setRow' h.1 (h.ge hi) _) (At.setRow (h.at hi)) fun k D u hk hD => hD.setRow_other hk
theorem Hv.cell (h : Hv w L w1) (hi : L[i]? = some (b, A, t)) (k : Nat) (v : Value) : Hv w (L.set i (b, A.setIfInBounds k v, t)) (w1.setCell ⟨b, k, none⟩ v) :=
  h.put hi (h.1.setCell (h.ge hi) _) (At.setCell (h.at hi)) fun j D u hk hD => hD.setCell_other hk
end
end Go.Proofs.Yteahbdnnieaaaaa.Row
