/- Parts of rows: what a part of a block holds, a part loaded, a part stored, rows written out with rows in them; for every package. -/
import Derived.Test.YtcahdjkmegnbfaaRowMv2
import Derived.Test.YtcahdjkmegnbfaaSli
import Derived.Deep.MidRow
set_option maxRecDepth 100000
set_option linter.unusedVariables false
namespace Go.Proofs.Ytcahdjkmegnbfaa.Row
open Go.RowKit

theorem isRow_of {m : Nat} {f : Nat → Int} {T : Array Value} (hs : T.size = m) (h : ∀ k, k < m → T[k]? = some (.int .i64 (f k))) : IsRow m f T := by
  refine ⟨hs, ?_, h⟩
  rw [Array.all_eq_true]
  intro i hi
  have := h i (by omega)
  rw [Array.getElem?_eq_getElem hi] at this
  injection this with this
  rw [this]
  rfl

theorem IsRow.sub {m l n : Nat} {f : Nat → Int} {T : Array Value} (h : IsRow m f T) (hm : l + n ≤ m) : IsRow n (fun i => f (l + i)) (T.extract l (l + n)) := by
  refine isRow_of (by rw [Array.size_extract, h.1]; omega) fun k hk => ?_
  rw [Array.getElem?_extract, h.1, if_pos (by omega), h.2.2 _ (by omega)]

theorem At.range {w : World} {g m l n : Nat} {f h : Nat → Int} {T U : Array Value} {t : TypeId} (hT : IsRow m f T) (hA : At w g T t) (hU : IsRow n h U) (hm : l + n ≤ m) (e : ∀ i, i < n → f (l + i) = h i) : w.rangeAt g l U.toList := fun j v hj => by
  have hjn : j < n := by
    have := (List.getElem?_eq_some_iff.1 hj).1
    rw [Array.length_toList, hU.1] at this
    exact this
  rw [Array.getElem?_toList, hU.2.2 j hjn] at hj
  injection hj with hj
  rw [hT.cell hA (l + j) (by omega), e j hjn, hj]

/-- A part of a row loaded, whether guarded or not. -/
theorem wpList_load_part {ops : Array Oper} {rest : List Oper} {o : Oper} {a : Act} {w : World} {Q : Exit → Act → World → Prop} (hw : Region.wanted o (yielded ops a.tmps) = true) (ty : TypeId) (x : Operand) (ho : o.op = .load ty x)
    (g l : Nat) (hx : a.eval x = .pointer (some ⟨g, l, none⟩)) {m n : Nat} {f h : Nat → Int} {T U : Array Value} {t : TypeId} (hT : IsRow m f T) (hA : At w g T t) (hU : IsRow n h U) (hm : l + n ≤ m) (e : ∀ i, i < n → f (l + i) = h i)
    {d : TypeDesc} (hu : Try.prog.underlying ty = some d) (hd : d.isRow = true) (hi : (Try.prog.info? ty).map (·.size) = some U.size)
    (hK : wpList Try.prog ops Q rest (a.put o.dst (.agg U)) w) : wpList Try.prog ops Q (o :: rest) a w := by
  rw [wpList, if_pos hw]
  refine .inl (wp_load_mid ty x ho g l hx U.toList d (At.range hT hA hU hm e) hu hd (by rw [Array.length_toList]; exact hi) ?_)
  rw [Array.toArray_toList]
  exact hK

/-- A whole row, or struct, loaded, whether guarded or not. -/
theorem wpList_load_all {ops : Array Oper} {rest : List Oper} {o : Oper} {a : Act} {w : World} {Q : Exit → Act → World → Prop} (hw : Region.wanted o (yielded ops a.tmps) = true) (ty : TypeId) (x : Operand) (ho : o.op = .load ty x)
    (g : Nat) (hx : a.eval x = .pointer (some ⟨g, 0, none⟩)) {m : Nat} {f : Nat → Int} {T : Array Value} {t : TypeId} (hT : IsRow m f T) (hA : At w g T t)
    {d : TypeDesc} (hu : Try.prog.underlying ty = some d) (hd : d.isRow = true) (hi : ∀ A : Array Value, A.size = m → (Try.prog.info? ty).map (·.size) = some A.size)
    (hK : wpList Try.prog ops Q rest (a.put o.dst (.agg T)) w) : wpList Try.prog ops Q (o :: rest) a w :=
  wpList_load_part hw ty x ho g 0 hx hT hA hT (by omega) (fun i _ => by rw [Nat.zero_add]) hu hd (hi T hT.1) hK

/-- A part of a row loaded in a region that draws its order. -/
theorem y_load_part {ops : Array Oper} {S : World → Prop} {oi : Oper} {a : Act} (hw : Region.wanted oi (yielded ops a.tmps) = true) {ty : TypeId} {x : Operand} (ho : oi.op = .load ty x)
    {g l : Nat} (hx : a.eval x = .pointer (some ⟨g, l, none⟩)) {m n : Nat} {f h : Nat → Int} {T U : Array Value} {t : TypeId} (hT : IsRow m f T) (hA : ∀ w, S w → At w g T t) (hU : IsRow n h U) (hm : l + n ≤ m) (e : ∀ i, i < n → f (l + i) = h i)
    {d : TypeDesc} (hu : Try.prog.underlying ty = some d) (hd : d.isRow = true) (hi : (Try.prog.info? ty).map (·.size) = some U.size) : YieldsIf Try.prog ops S oi (.agg U) a := by
  have := yieldsIf_load_mid (P := Try.prog) (S := S) hw ty x ho g l hx U.toList d (fun w hS => At.range hT (hA w hS) hU hm e) hu hd (by rw [Array.length_toList]; exact hi)
  rwa [Array.toArray_toList] at this

theorem setRow_self {w : World} {g : Nat} {T : Array Value} {t : TypeId} (h : At w g T t) : w.setRow g T = w := by
  have hlt := h.lt
  have hv : w.heap[g] = .cells T t (0, 0) := (Array.getElem?_eq_some_iff.1 h).2
  unfold World.setRow
  cases w with
  | mk heap tape drawn os output =>
    congr 1
    apply Array.ext
    · simp
    · intro k h1 h2
      simp only [Array.getElem_modify]
      split
      · rename_i hk; subst hk; simp at hv; simp [hv]
      · rfl

/-- Cells stored side by side into a row that is known whole. -/
theorem setCells_row {g : Nat} {t : TypeId} : ∀ (vs : List Value) (o : Nat) (T : Array Value) (w : World), At w g T t → ∃ C : Array Value, w.setCells g o vs = w.setRow g C ∧ C.size = T.size ∧
    ∀ i, i < T.size → C[i]? = if o ≤ i ∧ i < o + vs.length then vs[i - o]? else T[i]?
  | [], o, T, w, h => ⟨T, (setRow_self h).symm, rfl, fun i _ => by rw [if_neg (by simp)]⟩
  | v :: vs, o, T, w, h => by
    obtain ⟨C, h1, h2, h3⟩ := setCells_row vs (o + 1) (T.setIfInBounds o v) (w.setCell ⟨g, o, none⟩ v) h.setCell
    refine ⟨C, ?_, by rw [h2, Array.size_setIfInBounds], fun i hi => ?_⟩
    · rw [World.setCells, h1, setCell_eq_setRow w g o T t (0, 0) v h, setRow_setRow]
    · rw [h3 i (by rw [Array.size_setIfInBounds]; exact hi), List.length_cons]
      by_cases c1 : i = o
      · subst c1
        rw [if_neg (by omega), if_pos (by omega), Array.getElem?_setIfInBounds_self_of_lt hi, Nat.sub_self]
        rfl
      · by_cases c2 : o + 1 ≤ i ∧ i < o + 1 + vs.length
        · rw [if_pos c2, if_pos (by omega), show i - o = (i - (o + 1)) + 1 by omega]
          rfl
        · rw [if_neg c2, if_neg (by omega), Array.getElem?_setIfInBounds_ne (fun e => c1 e.symm)]

/-- A part of a row stored. -/
theorem wpList_store_part {ops : Array Oper} {rest : List Oper} {o : Oper} {a : Act} {w : World} {Q : Exit → Act → World → Prop} (hgd : o.guard = none) (ty : TypeId) (x y : Operand) (ho : o.op = .store ty x y)
    (g l : Nat) {m n : Nat} {f h : Nat → Int} {T U : Array Value} {t : TypeId} (hx : a.eval x = .pointer (some ⟨g, l, none⟩)) (hy : a.eval y = .agg U) (hT : IsRow m f T) (hA : At w g T t) (hU : IsRow n h U) (hm : l + n ≤ m)
    (hi : (Try.prog.info? ty).map (·.size) = some U.size)
    (hK : ∀ C, IsRow m (over f h l n) C → wpList Try.prog ops Q rest (a.put o.dst undef) (w.setRow g C)) : wpList Try.prog ops Q (o :: rest) a w := by
  obtain ⟨C, h1, h2, h3⟩ := setCells_row U.toList l T w hA
  have hC : IsRow m (over f h l n) C := isRow_of (by rw [h2, hT.1]) fun k hk => by
    rw [h3 k (by rw [hT.1]; exact hk), Array.length_toList, hU.1]
    unfold over
    by_cases c : l ≤ k ∧ k < l + n
    · rw [if_pos c, if_pos c, Array.getElem?_toList, hU.2.2 _ (by omega)]
    · rw [if_neg c, if_neg c, hT.2.2 k hk]
  refine wpList_store_mid hgd ty x y ho g l U hx hy (fun j hj => ?_) hi hU.2.1 ?_
  · rw [hU.1] at hj
    exact ⟨by rw [hT.cell hA (l + j) (by omega)]; rfl, hA.frozen _⟩
  · rw [h1]
    exact hK C hC

/-- One part of a row that is written out. -/
theorem fold_lay : ∀ (l : List Value) (k off : Nat) (C : Array Value), ((l.zipIdx k).foldl (fun cs x => cs.setIfInBounds (off + x.2) x.1) C).size = C.size ∧
    ∀ i, i < C.size → ((l.zipIdx k).foldl (fun cs x => cs.setIfInBounds (off + x.2) x.1) C)[i]? = if off + k ≤ i ∧ i < off + k + l.length then l[i - (off + k)]? else C[i]?
  | [], k, off, C => ⟨rfl, fun i _ => by rw [if_neg (by simp)]; rfl⟩
  | v :: l, k, off, C => by
    obtain ⟨h1, h2⟩ := fold_lay l (k + 1) off (C.setIfInBounds (off + k) v)
    rw [List.zipIdx_cons, List.foldl_cons]
    refine ⟨by rw [h1, Array.size_setIfInBounds], fun i hi => ?_⟩
    rw [h2 i (by rw [Array.size_setIfInBounds]; exact hi), List.length_cons]
    by_cases c1 : i = off + k
    · subst c1
      rw [if_neg (by omega), if_pos (by omega), Array.getElem?_setIfInBounds_self_of_lt hi, Nat.sub_self]
      rfl
    · by_cases c2 : off + (k + 1) ≤ i ∧ i < off + (k + 1) + l.length
      · rw [if_pos c2, if_pos (by omega), show i - (off + k) = (i - (off + (k + 1))) + 1 by omega]
        rfl
      · rw [if_neg c2, if_neg (by omega), Array.getElem?_setIfInBounds_ne (fun e => c1 e.symm)]

theorem fill_step {place : Nat → Option (Nat × Nat)} {i l n : Nat} {v : Value} {T : Array Value} {rest : List (Nat × Value)} (hp : place i = some (l, n)) (hv : v.cells.size = n) (hm : l + n ≤ T.size) :
    Instr.fill place T ((i, v) :: rest) = Instr.fill place ((v.cells.toList.zipIdx 0).foldl (fun cs x => cs.setIfInBounds (l + x.2) x.1) T) rest := by
  conv => lhs; unfold Instr.fill
  rw [hp]
  have h0 : (decide (v.cells.size ≠ n) || decide (l + v.cells.size > T.size)) = false := by
    rw [Bool.or_eq_false_iff, decide_eq_false_iff_not, decide_eq_false_iff_not]
    omega
  simp only [h0]
  simp only [Bool.false_eq_true, if_false]
  rw [← Array.foldl_toList, Array.toList_zipIdx]

theorem fill_agg {place : Nat → Option (Nat × Nat)} {i m l n : Nat} {f h : Nat → Int} {T U : Array Value} {rest : List (Nat × Value)} (hp : place i = some (l, n)) (hT : IsRow m f T) (hU : IsRow n h U) (hm : l + n ≤ m) :
    ∃ C, IsRow m (over f h l n) C ∧ Instr.fill place T ((i, .agg U) :: rest) = Instr.fill place C rest := by
  obtain ⟨h1, h2⟩ := fold_lay U.toList 0 l T
  refine ⟨(U.toList.zipIdx 0).foldl (fun cs x => cs.setIfInBounds (l + x.2) x.1) T, ?_, fill_step (v := .agg U) hp hU.1 (by rw [hT.1]; exact hm)⟩
  exact isRow_of (by rw [h1, hT.1]) fun k hk => by
    rw [h2 k (by rw [hT.1]; exact hk), Array.length_toList, hU.1]
    unfold over
    by_cases c : l ≤ k ∧ k < l + n
    · rw [if_pos (by omega), if_pos c, Array.getElem?_toList, show k - (l + 0) = k - l by omega, hU.2.2 _ (by omega)]
    · rw [if_neg (by omega), if_neg c, hT.2.2 k hk]

theorem fill_int {place : Nat → Option (Nat × Nat)} {i m l : Nat} {f : Nat → Int} {x : Int} {T : Array Value} {rest : List (Nat × Value)} (hp : place i = some (l, 1)) (hT : IsRow m f T) (hm : l < m) :
    ∃ C, IsRow m (fun j => if j = l then x else f j) C ∧ Instr.fill place T ((i, .int .i64 x) :: rest) = Instr.fill place C rest :=
  ⟨T.setIfInBounds l (.int .i64 x), hT.set x hm, fill_step (v := .int .i64 x) hp rfl (by rw [hT.1]; omega)⟩

/-- A row or a struct, and a number, as results. -/
theorem results_any_int {fn : Func} {p q : Tmp} {t u : TypeId} {z : Value} (h : fn.results = #[.cell p t, .tmp q]) (tmps : Array Value) (w : World) (g : Nat) (A : Array Value) (d : TypeDesc)
    (hp : tmps.getD p undef = .pointer (some ⟨g, 0, none⟩)) (hq : tmps.getD q undef = z) (hg : At w g A u)
    (hu : Try.prog.underlying t = some d) (hd : d.isRow = true) (hA : (Try.prog.info? t).map (·.size) = some A.size) :
    (results fn tmps).run Try.prog w = .ok (.tuple #[.agg A, z]) w := by
  have hp' : tmps[p]?.getD undef = .pointer (some ⟨g, 0, none⟩) := by simpa using hp
  have hq' : tmps[q]?.getD undef = z := by simpa using hq
  have h1 := run_loadVar_row w g u t A (0, 0) _ hg hu (by cases d <;> first | rfl | cases hd) hA
  simp [results, h, hp', hq', asAddr, h1]
/-- Two rows or structs as results. -/
theorem results_any_two {fn : Func} {p q : Tmp} {t u t' u' : TypeId} (h : fn.results = #[.cell p t, .cell q u]) (tmps : Array Value) (w : World) (g k : Nat) (A B : Array Value) (d d' : TypeDesc)
    (hp : tmps.getD p undef = .pointer (some ⟨g, 0, none⟩)) (hq : tmps.getD q undef = .pointer (some ⟨k, 0, none⟩)) (hg : At w g A t') (hk : At w k B u')
    (hu : Try.prog.underlying t = some d) (hd : d.isRow = true) (hA : (Try.prog.info? t).map (·.size) = some A.size)
    (hu' : Try.prog.underlying u = some d') (hd' : d'.isRow = true) (hB : (Try.prog.info? u).map (·.size) = some B.size) :
    (results fn tmps).run Try.prog w = .ok (.tuple #[.agg A, .agg B]) w := by
  have hp' : tmps[p]?.getD undef = .pointer (some ⟨g, 0, none⟩) := by simpa using hp
  have hq' : tmps[q]?.getD undef = .pointer (some ⟨k, 0, none⟩) := by simpa using hq
  have h1 := run_loadVar_row w g t' t A (0, 0) _ hg hu (by cases d <;> first | rfl | cases hd) hA
  have h2 := run_loadVar_row w k u' u B (0, 0) _ hk hu' (by cases d' <;> first | rfl | cases hd') hB
  simp [results, h, hp', hq', asAddr, h1, h2]

/-- A row or a struct written out, its parts as a list of values. -/
theorem wpList_build_parts {ops : Array Oper} {rest : List Oper} {o : Oper} {a : Act} {w : World} {Q : Exit → Act → World → Prop} (hw : Region.wanted o (yielded ops a.tmps) = true) (t : TypeId) (L : List (Nat × Operand)) (ho : o.op = .build t L.toArray)
    (vs : List (Nat × Value)) (hv : (L.map fun x => (x.1, a.eval x.2)) = vs) {C : Array Value} (hc : Try.prog.built t vs = some C)
    (h : wpList Try.prog ops Q rest (a.put o.dst (.agg C)) w) : wpList Try.prog ops Q (o :: rest) a w := by
  refine wpList_build_wanted hw t L.toArray ho C ?_ h
  rw [List.map_toArray, List.toList_toArray, ← hc, ← hv]
theorem y_build_parts {ops : Array Oper} {S : World → Prop} {oi : Oper} {a : Act} {t : TypeId} {L : List (Nat × Operand)} (hw : Region.wanted oi (yielded ops a.tmps) = true) (ho : oi.op = .build t L.toArray)
    (vs : List (Nat × Value)) (hv : (L.map fun x => (x.1, a.eval x.2)) = vs) {C : Array Value} (hc : Try.prog.built t vs = some C) : YieldsIf Try.prog ops S oi (.agg C) a := by
  refine y_build hw ho ?_
  rw [List.map_toArray, List.toList_toArray, ← hc, ← hv]
end Go.Proofs.Ytcahdjkmegnbfaa.Row
