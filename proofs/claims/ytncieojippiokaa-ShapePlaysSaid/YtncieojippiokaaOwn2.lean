/- Slices of integers that a function appends a slice to: 'append(p, q...)'. -/
import Derived.Test.YtncieojippiokaaOwn
set_option maxRecDepth 100000
namespace Go.Proofs.Ytncieojippiokaa.Row
open Go.RowKit

/-- n of f's numbers, then h's. -/
def cat (f : Nat → Int) (n : Nat) (h : Nat → Int) (i : Nat) : Int := if i < n then f i else h (i - n)
theorem cat_0 (f h : Nat → Int) (i : Nat) : cat f 0 h i = h i := by unfold cat; rw [if_neg (by omega)]; rfl
theorem intsL_cat (f h : Nat → Int) (n m : Nat) : intsL f n ++ intsL h m = intsL (cat f n h) (n + m) := by
  apply List.ext_getElem?
  intro i
  by_cases h1 : i < n
  · rw [List.getElem?_append_left (by rw [intsL_length]; exact h1), intsL_get _ _ _ h1, intsL_get _ _ _ (by omega)]
    unfold cat
    rw [if_pos h1]
  · rw [List.getElem?_append_right (by rw [intsL_length]; omega), intsL_length]
    by_cases h2 : i < n + m
    · rw [intsL_get _ _ _ (by omega), intsL_get _ _ _ h2]
      unfold cat
      rw [if_neg h1]
    · rw [List.getElem?_eq_none (by rw [intsL_length]; omega), List.getElem?_eq_none (by rw [intsL_length]; omega)]

/-- An empty slice that was written out. -/
theorem OwnS.empty {w : World} {B g : Nat} {f : Nat → Int} (hB : B ≤ g) (h : At w g #[] 3) : OwnS w B (some ⟨g, 0, none⟩) 0 0 f := .inr ⟨g, rfl, hB, Nat.le_refl _, Nat.zero_le _, #[], h, rfl, fun i hi => absurd hi (Nat.not_lt_zero i)⟩

/-- 'p = append(p, q...)': the new slice's shape, what it holds, and that nothing below B is changed. -/
theorem wpList_append_many {ops : Array Oper} {rest : List Oper} {o : Oper} {a : Act} {w : World} {Q : Exit → Act → World → Prop} (hgd : o.guard = none) (s x : Operand)
    (ho : o.op = .call { callee := .builtin .append, args := #[s, x], argTypes := #[22, 22] })
    (B : Nat) (f h : Nat → Int) (ao : Option Addr) (n c : Nat) (hs : a.eval s = .slice ao n c) (hown : OwnS w B ao n c f) (sp : Option Addr) (m d : Nat) (hx : a.eval x = .slice sp m d) (hsl : Sl .i64 w sp m d h) (hm : 0 < m) (N : Nat) (hN : n + m = N)
    (hn : N ≤ 1000000000) (hB : B ≤ w.heap.size)
    (hK : ∀ g c' w', OwnG w' B g c' N (cat f n h) → Below B w w' → w.grownBy w' (Value.slice ao n c).ownBlock → (ao = some ⟨g, 0, none⟩ ∨ g = w.heap.size) → wpList Try.prog ops Q rest (a.put o.dst (.slice (some ⟨g, 0, none⟩) N c')) w') : wpList Try.prog ops Q (o :: rest) a w := by
  subst hN
  obtain ⟨i, hi, hz, hsz, hby⟩ := info_int3
  obtain ⟨b, p, rfl, hc⟩ := hsl.2.2 hm
  refine wpList_append_own_at w hgd s x 22 ho B 3 i (.int .i64 0) 1 8 Try.underlying22 hi hz hsz hby rfl (by decide) (.slice ao n c) n (intsL f n) hs hown.owns ⟨b, p, none⟩ m d (intsL h m) hx (by rw [intsL_length]; omega) ?_ ?_ (by unfold maxLen; omega) (by omega) hB ?_
  · intro j u hj
    have hjm : j < m := by
      have := (List.getElem?_eq_some_iff.1 hj).1
      rw [intsL_length] at this
      exact this
    rw [intsL_get _ _ _ hjm] at hj
    injection hj with hj
    subst hj
    rw [← hc j hjm]
    unfold Addr.add
    by_cases e0 : j = 0
    · subst e0; simp
    · simp [e0]
  · intro u hu
    unfold intsL at hu
    simp only [List.mem_map, List.mem_range] at hu
    obtain ⟨j, _, rfl⟩ := hu
    rfl
  · intro v' w' hown' hg _ hat
    rw [intsL_cat] at hown'
    obtain ⟨g, c', rfl, hG⟩ := own_of hown' (by omega)
    refine hK g c' w' hG ((Below.refl B w).grown hg hB fun k hk => own_block_ge hown k hk) hg ?_
    rcases hat with e | e
    · rcases hown with ⟨rfl, _, _⟩ | ⟨g0, rfl, _⟩
      · cases e
      · simp only [Value.ownBlock, Option.some.injEq] at e
        exact .inl (by rw [e])
    · simp only [Value.ownBlock, Option.some.injEq] at e
      exact .inr e

/-- One number changed. -/
theorem OwnG.set {w : World} {B g c n : Nat} {f : Nat → Int} (h : OwnG w B g c n f) {j : Nat} (hj : j < n) (v : Int) : OwnG (w.setCell ⟨g, j, none⟩ (.int .i64 v)) B g c n (fun i => if i = j then v else f i) := by
  obtain ⟨h1, h2, h3, cur, hA, h4, h5⟩ := h
  refine ⟨h1, h2, h3, _, hA.setCell, by rw [Array.size_setIfInBounds]; exact h4, fun i hi => ?_⟩
  by_cases e : i = j
  · subst e
    rw [Array.getElem?_setIfInBounds_self_of_lt (by omega)]
    show some (Value.int .i64 v) = some (.int .i64 (if i = i then v else f i))
    rw [if_pos rfl]
  · rw [Array.getElem?_setIfInBounds_ne (fun h => e h.symm), h5 i hi]
    show some (Value.int .i64 (f i)) = some (.int .i64 (if i = j then v else f i))
    rw [if_neg e]
end Go.Proofs.Ytncieojippiokaa.Row
