/- Cells stored side by side into a row that is known whole; parts of rows that are written out (carved out of StA0). For every package. -/
import Derived.Test.YtbbeekpndhfpjaaRowMv2
import Derived.Deep.MidRow
set_option maxRecDepth 100000
set_option linter.unusedVariables false
namespace Go.Proofs.Ytbbeekpndhfpjaa.Row
open Go.RowKit

theorem setRow_self {w : World} {g : Nat} {T : Array Value} {t : TypeId} (h : At w g T t) : w.setRow g T = w := by
  have hlt := h.lt
  have hv : w.heap[g] = .cells T t (0, 0) := (Array.getElem?_eq_some_iff.1 h).2
  unfold World.setRow
  cases w with
  | mk heap tape drawn os output =>
    congr 1
    apply Array.ext
    · simp
    · intro k h1 h2
      simp only [Array.getElem_modify]
      split
      · rename_i hk; subst hk; simp at hv; simp [hv]
      · rfl

/-- Cells stored side by side into a row that is known whole. -/
theorem setCells_row {g : Nat} {t : TypeId} : ∀ (vs : List Value) (o : Nat) (T : Array Value) (w : World), At w g T t → ∃ C : Array Value, w.setCells g o vs = w.setRow g C ∧ C.size = T.size ∧
    ∀ i, i < T.size → C[i]? = if o ≤ i ∧ i < o + vs.length then vs[i - o]? else T[i]?
  | [], o, T, w, h => ⟨T, (setRow_self h).symm, rfl, fun i _ => by rw [if_neg (by simp)]⟩
  | v :: vs, o, T, w, h => by
    obtain ⟨C, h1, h2, h3⟩ := setCells_row vs (o + 1) (T.setIfInBounds o v) (w.setCell ⟨g, o, none⟩ v) h.setCell
    refine ⟨C, ?_, by rw [h2, Array.size_setIfInBounds], fun i hi => ?_⟩
    · rw [World.setCells, h1, setCell_eq_setRow w g o T t (0, 0) v h, setRow_setRow]
    · rw [h3 i (by rw [Array.size_setIfInBounds]; exact hi), List.length_cons]
      by_cases c1 : i = o
      · subst c1
        rw [if_neg (by omega), if_pos (by omega), Array.getElem?_setIfInBounds_self_of_lt hi, Nat.sub_self]
        rfl
      · by_cases c2 : o + 1 ≤ i ∧ i < o + 1 + vs.length
        · rw [if_pos c2, if_pos (by omega), show i - o = (i - (o + 1)) + 1 by omega]
          rfl
        · rw [if_neg c2, if_neg (by omega), Array.getElem?_setIfInBounds_ne (fun e => c1 e.symm)]

/-- One part of a row that is written out. -/
theorem fold_lay : ∀ (l : List Value) (k off : Nat) (C : Array Value), ((l.zipIdx k).foldl (fun cs x => cs.setIfInBounds (off + x.2) x.1) C).size = C.size ∧
    ∀ i, i < C.size → ((l.zipIdx k).foldl (fun cs x => cs.setIfInBounds (off + x.2) x.1) C)[i]? = if off + k ≤ i ∧ i < off + k + l.length then l[i - (off + k)]? else C[i]?
  | [], k, off, C => ⟨rfl, fun i _ => by rw [if_neg (by simp)]; rfl⟩
  | v :: l, k, off, C => by
    obtain ⟨h1, h2⟩ := fold_lay l (k + 1) off (C.setIfInBounds (off + k) v)
    rw [List.zipIdx_cons, List.foldl_cons]
    refine ⟨by rw [h1, Array.size_setIfInBounds], fun i hi => ?_⟩
    rw [h2 i (by rw [Array.size_setIfInBounds]; exact hi), List.length_cons]
    by_cases c1 : i = off + k
    · subst c1
      rw [if_neg (by omega), if_pos (by omega), Array.getElem?_setIfInBounds_self_of_lt hi, Nat.sub_self]
      rfl
    · by_cases c2 : off + (k + 1) ≤ i ∧ i < off + (k + 1) + l.length
      · rw [if_pos c2, if_pos (by omega), show i - (off + k) = (i - (off + (k + 1))) + 1 by omega]
        rfl
      · rw [if_neg c2, if_neg (by omega), Array.getElem?_setIfInBounds_ne (fun e => c1 e.symm)]

theorem fill_step {place : Nat → Option (Nat × Nat)} {i l n : Nat} {v : Value} {T : Array Value} {rest : List (Nat × Value)} (hp : place i = some (l, n)) (hv : v.cells.size = n) (hm : l + n ≤ T.size) :
    Instr.fill place T ((i, v) :: rest) = Instr.fill place ((v.cells.toList.zipIdx 0).foldl (fun cs x => cs.setIfInBounds (l + x.2) x.1) T) rest := by
  conv => lhs; unfold Instr.fill
  rw [hp]
  have h0 : (decide (v.cells.size ≠ n) || decide (l + v.cells.size > T.size)) = false := by
    rw [Bool.or_eq_false_iff, decide_eq_false_iff_not, decide_eq_false_iff_not]
    omega
  simp only [h0]
  simp only [Bool.false_eq_true, if_false]
  rw [← Array.foldl_toList, Array.toList_zipIdx]
end Go.Proofs.Ytbbeekpndhfpjaa.Row
