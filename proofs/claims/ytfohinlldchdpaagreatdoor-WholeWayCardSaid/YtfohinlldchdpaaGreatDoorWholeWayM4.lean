/- Texts of the walk, one behind the other. -/
import Derived.Test.YtfohinlldchdpaaGreatDoorWholeWayM2
import Derived.Test.YtfohinlldchdpaaGreatDoorWholeWayM3
import Derived.Deep.MidRow
import Derived.Test.YtfohinlldchdpaaGreatDoorWholeWayM5
import Derived.Test.YtfohinlldchdpaaGreatDoorWholeWayM1
import Derived.OwnWalk

section
/- Parts of rows: what a part of a block holds, a part loaded, a part stored, rows written out with rows in them; for every package. -/
set_option maxRecDepth 100000
set_option linter.unusedVariables false
namespace Go.Proofs.YtfohinlldchdpaaGreatDoor.Row
open Go.RowKit

theorem isRow_of {m : Nat} {f : Nat → Int} {T : Array Value} (hs : T.size = m) (h : ∀ k, k < m → T[k]? = some (.int .i64 (f k))) : IsRow m f T := by
  refine ⟨hs, ?_, h⟩
  rw [Array.all_eq_true]
  intro i hi
  have := h i (by omega)
  rw [Array.getElem?_eq_getElem hi] at this
  injection this with this
  rw [this]
  rfl

theorem IsRow.sub {m l n : Nat} {f : Nat → Int} {T : Array Value} (h : IsRow m f T) (hm : l + n ≤ m) : IsRow n (fun i => f (l + i)) (T.extract l (l + n)) := by
  refine isRow_of (by rw [Array.size_extract, h.1]; omega) fun k hk => ?_
  rw [Array.getElem?_extract, h.1, if_pos (by omega), h.2.2 _ (by omega)]

theorem At.range {w : World} {g m l n : Nat} {f h : Nat → Int} {T U : Array Value} {t : TypeId} (hT : IsRow m f T) (hA : At w g T t) (hU : IsRow n h U) (hm : l + n ≤ m) (e : ∀ i, i < n → f (l + i) = h i) : w.rangeAt g l U.toList := fun j v hj => by
  have hjn : j < n := by
    have := (List.getElem?_eq_some_iff.1 hj).1
    rw [Array.length_toList, hU.1] at this
    exact this
  rw [Array.getElem?_toList, hU.2.2 j hjn] at hj
  injection hj with hj
  rw [hT.cell hA (l + j) (by omega), e j hjn, hj]

/-- A part of a row loaded, whether guarded or not. -/
theorem wpList_load_part {ops : Array Oper} {rest : List Oper} {o : Oper} {a : Act} {w : World} {Q : Exit → Act → World → Prop} (hw : Region.wanted o (yielded ops a.tmps) = true) (ty : TypeId) (x : Operand) (ho : o.op = .load ty x)
    (g l : Nat) (hx : a.eval x = .pointer (some ⟨g, l, none⟩)) {m n : Nat} {f h : Nat → Int} {T U : Array Value} {t : TypeId} (hT : IsRow m f T) (hA : At w g T t) (hU : IsRow n h U) (hm : l + n ≤ m) (e : ∀ i, i < n → f (l + i) = h i)
    {d : TypeDesc} (hu : Tryz.prog.underlying ty = some d) (hd : d.isRow = true) (hi : (Tryz.prog.info? ty).map (·.size) = some U.size)
    (hK : wpList Tryz.prog ops Q rest (a.put o.dst (.agg U)) w) : wpList Tryz.prog ops Q (o :: rest) a w := by
  rw [wpList, if_pos hw]
  refine .inl (wp_load_mid ty x ho g l hx U.toList d (At.range hT hA hU hm e) hu hd (by rw [Array.length_toList]; exact hi) ?_)
  rw [Array.toArray_toList]
  exact hK

/-- A whole row, or struct, loaded, whether guarded or not. -/
theorem wpList_load_all {ops : Array Oper} {rest : List Oper} {o : Oper} {a : Act} {w : World} {Q : Exit → Act → World → Prop} (hw : Region.wanted o (yielded ops a.tmps) = true) (ty : TypeId) (x : Operand) (ho : o.op = .load ty x)
    (g : Nat) (hx : a.eval x = .pointer (some ⟨g, 0, none⟩)) {m : Nat} {f : Nat → Int} {T : Array Value} {t : TypeId} (hT : IsRow m f T) (hA : At w g T t)
    {d : TypeDesc} (hu : Tryz.prog.underlying ty = some d) (hd : d.isRow = true) (hi : ∀ A : Array Value, A.size = m → (Tryz.prog.info? ty).map (·.size) = some A.size)
    (hK : wpList Tryz.prog ops Q rest (a.put o.dst (.agg T)) w) : wpList Tryz.prog ops Q (o :: rest) a w :=
  wpList_load_part hw ty x ho g 0 hx hT hA hT (by omega) (fun i _ => by rw [Nat.zero_add]) hu hd (hi T hT.1) hK

/-- A part of a row loaded in a region that draws its order. -/
theorem y_load_part {ops : Array Oper} {S : World → Prop} {oi : Oper} {a : Act} (hw : Region.wanted oi (yielded ops a.tmps) = true) {ty : TypeId} {x : Operand} (ho : oi.op = .load ty x)
    {g l : Nat} (hx : a.eval x = .pointer (some ⟨g, l, none⟩)) {m n : Nat} {f h : Nat → Int} {T U : Array Value} {t : TypeId} (hT : IsRow m f T) (hA : ∀ w, S w → At w g T t) (hU : IsRow n h U) (hm : l + n ≤ m) (e : ∀ i, i < n → f (l + i) = h i)
    {d : TypeDesc} (hu : Tryz.prog.underlying ty = some d) (hd : d.isRow = true) (hi : (Tryz.prog.info? ty).map (·.size) = some U.size) : YieldsIf Tryz.prog ops S oi (.agg U) a := by
  have := yieldsIf_load_mid (P := Tryz.prog) (S := S) hw ty x ho g l hx U.toList d (fun w hS => At.range hT (hA w hS) hU hm e) hu hd (by rw [Array.length_toList]; exact hi)
  rwa [Array.toArray_toList] at this

theorem setRow_self {w : World} {g : Nat} {T : Array Value} {t : TypeId} (h : At w g T t) : w.setRow g T = w := by
  have hlt := h.lt
  have hv : w.heap[g] = .cells T t (0, 0) := (Array.getElem?_eq_some_iff.1 h).2
  unfold World.setRow
  cases w with
  | mk heap tape drawn os output =>
    congr 1
    apply Array.ext
    · simp
    · intro k h1 h2
      simp only [Array.getElem_modify]
      split
      · rename_i hk; subst hk; simp at hv; simp [hv]
      · rfl

/-- Cells stored side by side into a row that is known whole. -/
theorem setCells_row {g : Nat} {t : TypeId} : ∀ (vs : List Value) (o : Nat) (T : Array Value) (w : World), At w g T t → ∃ C : Array Value, w.setCells g o vs = w.setRow g C ∧ C.size = T.size ∧
    ∀ i, i < T.size → C[i]? = if o ≤ i ∧ i < o + vs.length then vs[i - o]? else T[i]?
  | [], o, T, w, h => ⟨T, (setRow_self h).symm, rfl, fun i _ => by rw [if_neg (by simp)]⟩
  | v :: vs, o, T, w, h => by
    obtain ⟨C, h1, h2, h3⟩ := setCells_row vs (o + 1) (T.setIfInBounds o v) (w.setCell ⟨g, o, none⟩ v) h.setCell
    refine ⟨C, ?_, by rw [h2, Array.size_setIfInBounds], fun i hi => ?_⟩
    · rw [World.setCells, h1, setCell_eq_setRow w g o T t (0, 0) v h, setRow_setRow]
    · rw [h3 i (by rw [Array.size_setIfInBounds]; exact hi), List.length_cons]
      by_cases c1 : i = o
      · subst c1
        rw [if_neg (by omega), if_pos (by omega), Array.getElem?_setIfInBounds_self_of_lt hi, Nat.sub_self]
        rfl
      · by_cases c2 : o + 1 ≤ i ∧ i < o + 1 + vs.length
        · rw [if_pos c2, if_pos (by omega), show i - o = (i - (o + 1)) + 1 by omega]
          rfl
        · rw [if_neg c2, if_neg (by omega), Array.getElem?_setIfInBounds_ne (fun e => c1 e.symm)]

/-- A part of a row stored. -/
theorem wpList_store_part {ops : Array Oper} {rest : List Oper} {o : Oper} {a : Act} {w : World} {Q : Exit → Act → World → Prop} (hgd : o.guard = none) (ty : TypeId) (x y : Operand) (ho : o.op = .store ty x y)
    (g l : Nat) {m n : Nat} {f h : Nat → Int} {T U : Array Value} {t : TypeId} (hx : a.eval x = .pointer (some ⟨g, l, none⟩)) (hy : a.eval y = .agg U) (hT : IsRow m f T) (hA : At w g T t) (hU : IsRow n h U) (hm : l + n ≤ m)
    (hi : (Tryz.prog.info? ty).map (·.size) = some U.size)
    (hK : ∀ C, IsRow m (over f h l n) C → wpList Tryz.prog ops Q rest (a.put o.dst undef) (w.setRow g C)) : wpList Tryz.prog ops Q (o :: rest) a w := by
  obtain ⟨C, h1, h2, h3⟩ := setCells_row U.toList l T w hA
  have hC : IsRow m (over f h l n) C := isRow_of (by rw [h2, hT.1]) fun k hk => by
    rw [h3 k (by rw [hT.1]; exact hk), Array.length_toList, hU.1]
    unfold over
    by_cases c : l ≤ k ∧ k < l + n
    · rw [if_pos c, if_pos c, Array.getElem?_toList, hU.2.2 _ (by omega)]
    · rw [if_neg c, if_neg c, hT.2.2 k hk]
  refine wpList_store_mid hgd ty x y ho g l U hx hy (fun j hj => ?_) hi hU.2.1 ?_
  · rw [hU.1] at hj
    exact ⟨by rw [hT.cell hA (l + j) (by omega)]; rfl, hA.frozen _⟩
  · rw [h1]
    exact hK C hC

/-- One part of a row that is written out. -/
theorem fold_lay : ∀ (l : List Value) (k off : Nat) (C : Array Value), ((l.zipIdx k).foldl (fun cs x => cs.setIfInBounds (off + x.2) x.1) C).size = C.size ∧
    ∀ i, i < C.size → ((l.zipIdx k).foldl (fun cs x => cs.setIfInBounds (off + x.2) x.1) C)[i]? = if off + k ≤ i ∧ i < off + k + l.length then l[i - (off + k)]? else C[i]?
  | [], k, off, C => ⟨rfl, fun i _ => by rw [if_neg (by simp)]; rfl⟩
  | v :: l, k, off, C => by
    obtain ⟨h1, h2⟩ := fold_lay l (k + 1) off (C.setIfInBounds (off + k) v)
    rw [List.zipIdx_cons, List.foldl_cons]
    refine ⟨by rw [h1, Array.size_setIfInBounds], fun i hi => ?_⟩
    rw [h2 i (by rw [Array.size_setIfInBounds]; exact hi), List.length_cons]
    by_cases c1 : i = off + k
    · subst c1
      rw [if_neg (by omega), if_pos (by omega), Array.getElem?_setIfInBounds_self_of_lt hi, Nat.sub_self]
      rfl
    · by_cases c2 : off + (k + 1) ≤ i ∧ i < off + (k + 1) + l.length
      · rw [if_pos c2, if_pos (by omega), show i - (off + k) = (i - (off + (k + 1))) + 1 by omega]
        rfl
      · rw [if_neg c2, if_neg (by omega), Array.getElem?_setIfInBounds_ne (fun e => c1 e.symm)]

theorem fill_step {place : Nat → Option (Nat × Nat)} {i l n : Nat} {v : Value} {T : Array Value} {rest : List (Nat × Value)} (hp : place i = some (l, n)) (hv : v.cells.size = n) (hm : l + n ≤ T.size) :
    Instr.fill place T ((i, v) :: rest) = Instr.fill place ((v.cells.toList.zipIdx 0).foldl (fun cs x => cs.setIfInBounds (l + x.2) x.1) T) rest := by
  conv => lhs; unfold Instr.fill
  rw [hp]
  have h0 : (decide (v.cells.size ≠ n) || decide (l + v.cells.size > T.size)) = false := by
    rw [Bool.or_eq_false_iff, decide_eq_false_iff_not, decide_eq_false_iff_not]
    omega
  simp only [h0]
  simp only [Bool.false_eq_true, if_false]
  rw [← Array.foldl_toList, Array.toList_zipIdx]

theorem fill_agg {place : Nat → Option (Nat × Nat)} {i m l n : Nat} {f h : Nat → Int} {T U : Array Value} {rest : List (Nat × Value)} (hp : place i = some (l, n)) (hT : IsRow m f T) (hU : IsRow n h U) (hm : l + n ≤ m) :
    ∃ C, IsRow m (over f h l n) C ∧ Instr.fill place T ((i, .agg U) :: rest) = Instr.fill place C rest := by
  obtain ⟨h1, h2⟩ := fold_lay U.toList 0 l T
  refine ⟨(U.toList.zipIdx 0).foldl (fun cs x => cs.setIfInBounds (l + x.2) x.1) T, ?_, fill_step (v := .agg U) hp hU.1 (by rw [hT.1]; exact hm)⟩
  exact isRow_of (by rw [h1, hT.1]) fun k hk => by
    rw [h2 k (by rw [hT.1]; exact hk), Array.length_toList, hU.1]
    unfold over
    by_cases c : l ≤ k ∧ k < l + n
    · rw [if_pos (by omega), if_pos c, Array.getElem?_toList, show k - (l + 0) = k - l by omega, hU.2.2 _ (by omega)]
    · rw [if_neg (by omega), if_neg c, hT.2.2 k hk]

theorem fill_int {place : Nat → Option (Nat × Nat)} {i m l : Nat} {f : Nat → Int} {x : Int} {T : Array Value} {rest : List (Nat × Value)} (hp : place i = some (l, 1)) (hT : IsRow m f T) (hm : l < m) :
    ∃ C, IsRow m (fun j => if j = l then x else f j) C ∧ Instr.fill place T ((i, .int .i64 x) :: rest) = Instr.fill place C rest :=
  ⟨T.setIfInBounds l (.int .i64 x), hT.set x hm, fill_step (v := .int .i64 x) hp rfl (by rw [hT.1]; omega)⟩

/-- A row or a struct, and a number, as results. -/
theorem results_any_int {fn : Func} {p q : Tmp} {t u : TypeId} {z : Value} (h : fn.results = #[.cell p t, .tmp q]) (tmps : Array Value) (w : World) (g : Nat) (A : Array Value) (d : TypeDesc)
    (hp : tmps.getD p undef = .pointer (some ⟨g, 0, none⟩)) (hq : tmps.getD q undef = z) (hg : At w g A u)
    (hu : Tryz.prog.underlying t = some d) (hd : d.isRow = true) (hA : (Tryz.prog.info? t).map (·.size) = some A.size) :
    (results fn tmps).run Tryz.prog w = .ok (.tuple #[.agg A, z]) w := by
  have hp' : tmps[p]?.getD undef = .pointer (some ⟨g, 0, none⟩) := by simpa using hp
  have hq' : tmps[q]?.getD undef = z := by simpa using hq
  have h1 := run_loadVar_row w g u t A (0, 0) _ hg hu (by cases d <;> first | rfl | cases hd) hA
  simp [results, h, hp', hq', asAddr, h1]
/-- Two rows or structs as results. -/
theorem results_any_two {fn : Func} {p q : Tmp} {t u t' u' : TypeId} (h : fn.results = #[.cell p t, .cell q u]) (tmps : Array Value) (w : World) (g k : Nat) (A B : Array Value) (d d' : TypeDesc)
    (hp : tmps.getD p undef = .pointer (some ⟨g, 0, none⟩)) (hq : tmps.getD q undef = .pointer (some ⟨k, 0, none⟩)) (hg : At w g A t') (hk : At w k B u')
    (hu : Tryz.prog.underlying t = some d) (hd : d.isRow = true) (hA : (Tryz.prog.info? t).map (·.size) = some A.size)
    (hu' : Tryz.prog.underlying u = some d') (hd' : d'.isRow = true) (hB : (Tryz.prog.info? u).map (·.size) = some B.size) :
    (results fn tmps).run Tryz.prog w = .ok (.tuple #[.agg A, .agg B]) w := by
  have hp' : tmps[p]?.getD undef = .pointer (some ⟨g, 0, none⟩) := by simpa using hp
  have hq' : tmps[q]?.getD undef = .pointer (some ⟨k, 0, none⟩) := by simpa using hq
  have h1 := run_loadVar_row w g t' t A (0, 0) _ hg hu (by cases d <;> first | rfl | cases hd) hA
  have h2 := run_loadVar_row w k u' u B (0, 0) _ hk hu' (by cases d' <;> first | rfl | cases hd') hB
  simp [results, h, hp', hq', asAddr, h1, h2]

/-- A row or a struct written out, its parts as a list of values. -/
theorem wpList_build_parts {ops : Array Oper} {rest : List Oper} {o : Oper} {a : Act} {w : World} {Q : Exit → Act → World → Prop} (hw : Region.wanted o (yielded ops a.tmps) = true) (t : TypeId) (L : List (Nat × Operand)) (ho : o.op = .build t L.toArray)
    (vs : List (Nat × Value)) (hv : (L.map fun x => (x.1, a.eval x.2)) = vs) {C : Array Value} (hc : Tryz.prog.built t vs = some C)
    (h : wpList Tryz.prog ops Q rest (a.put o.dst (.agg C)) w) : wpList Tryz.prog ops Q (o :: rest) a w := by
  refine wpList_build_wanted hw t L.toArray ho C ?_ h
  rw [List.map_toArray, List.toList_toArray, ← hc, ← hv]
theorem y_build_parts {ops : Array Oper} {S : World → Prop} {oi : Oper} {a : Act} {t : TypeId} {L : List (Nat × Operand)} (hw : Region.wanted oi (yielded ops a.tmps) = true) (ho : oi.op = .build t L.toArray)
    (vs : List (Nat × Value)) (hv : (L.map fun x => (x.1, a.eval x.2)) = vs) {C : Array Value} (hc : Tryz.prog.built t vs = some C) : YieldsIf Tryz.prog ops S oi (.agg C) a := by
  refine y_build hw ho ?_
  rw [List.map_toArray, List.toList_toArray, ← hc, ← hv]
end Go.Proofs.YtfohinlldchdpaaGreatDoor.Row
end

section
/- States as rows of 38 numbers: when they are right, zero states, states written out, states compared. -/
set_option maxRecDepth 100000
set_option linter.unusedVariables false
namespace Go.Proofs.YtfohinlldchdpaaGreatDoor.Sta
open Go.RowKit Go.Proofs.YtfohinlldchdpaaGreatDoor.Row

/-- A state's numbers out of its fields'. -/
def stF (m : Nat → Int) (l : Int) (v u : Nat → Int) (z : Int) (k : Nat) : Int := if k < 16 then m k else if k = 16 then l else if k < 21 then v (k - 17) else if k < 37 then u (k - 21) else z
theorem stF_mem (m : Nat → Int) (l : Int) (v u : Nat → Int) (z : Int) {i : Nat} (h : i < 16) : stF m l v u z i = m i := by unfold stF; rw [if_pos h]
theorem stF_last (m : Nat → Int) (l : Int) (v u : Nat → Int) (z : Int) : stF m l v u z 16 = l := by unfold stF; rw [if_neg (by omega), if_pos rfl]
theorem stF_lev (m : Nat → Int) (l : Int) (v u : Nat → Int) (z : Int) {i : Nat} (h : i < 4) : stF m l v u z (17 + i) = v i := by unfold stF; rw [if_neg (by omega), if_neg (by omega), if_pos (by omega), Nat.add_sub_cancel_left]
theorem stF_wav (m : Nat → Int) (l : Int) (v u : Nat → Int) (z : Int) {i : Nat} (h : i < 16) : stF m l v u z (21 + i) = u i := by unfold stF; rw [if_neg (by omega), if_neg (by omega), if_neg (by omega), if_pos (by omega), Nat.add_sub_cancel_left]
theorem stF_lost (m : Nat → Int) (l : Int) (v u : Nat → Int) (z : Int) : stF m l v u z 37 = z := by unfold stF; rw [if_neg (by omega), if_neg (by omega), if_neg (by omega), if_neg (by omega)]
theorem stF_self (f : Nat → Int) {k : Nat} (h : k < 38) : stF f (f 16) (fun i => f (17 + i)) (fun i => f (21 + i)) (f 37) k = f k := by
  unfold stF
  by_cases c1 : k < 16
  · rw [if_pos c1]
  · rw [if_neg c1]
    by_cases c2 : k = 16
    · rw [if_pos c2, c2]
    · rw [if_neg c2]
      by_cases c3 : k < 21
      · rw [if_pos c3]; show f (17 + (k - 17)) = f k; congr 1; omega
      · rw [if_neg c3]
        by_cases c4 : k < 37
        · rw [if_pos c4]; show f (21 + (k - 21)) = f k; congr 1; omega
        · rw [if_neg c4, show k = 37 by omega]

/-- A state is right. -/
def Rt (f : Nat → Int) : Prop := (∀ i, i < 16 → -2147483648 ≤ f i ∧ f i ≤ 2147483647) ∧ (-2097152 ≤ f 16 ∧ f 16 ≤ 2097151) ∧ (∀ i, i < 4 → 0 ≤ f (17 + i) ∧ f (17 + i) ≤ 20) ∧ Md.Le 1048576 (fun i => f (21 + i)) ∧ (0 ≤ f 37 ∧ f 37 ≤ 255)
theorem Rt.ext {f g : Nat → Int} (h : Rt f) (e : ∀ k, k < 38 → f k = g k) : Rt g := by
  obtain ⟨h1, h2, h3, h4, h5⟩ := h
  refine ⟨fun i hi => by rw [← e i (by omega)]; exact h1 i hi, by rw [← e 16 (by omega)]; exact h2, fun i hi => by rw [← e _ (by omega)]; exact h3 i hi, fun i hi => ?_, by rw [← e 37 (by omega)]; exact h5⟩
  show Md.ab (g (21 + i)) ≤ _
  rw [← e _ (by omega)]; exact h4 i hi

theorem zero_p : ∃ Z, IsRow 38 (fun _ => 0) Z ∧ (∀ f, rowL 38 f 0 = Z) ∧ (∀ w, (zeroValue 34).run Tryz.prog w = .ok (.agg Z) w) ∧ ∀ A : Array Value, A.size = 38 → (Tryz.prog.info? 34).map (·.size) = some A.size := zero_row (by kernel_rfl)
theorem zero_r : ∃ Z, IsRow 38 (fun _ => 0) Z ∧ (∀ f, rowL 38 f 0 = Z) ∧ (∀ w, (zeroValue 25).run Tryz.prog w = .ok (.agg Z) w) ∧ ∀ A : Array Value, A.size = 38 → (Tryz.prog.info? 25).map (·.size) = some A.size := zero_row (by kernel_rfl)
theorem zero_4 : ∃ Z, IsRow 4 (fun _ => 0) Z ∧ (∀ f, rowL 4 f 0 = Z) ∧ (∀ w, (zeroValue 23).run Tryz.prog w = .ok (.agg Z) w) ∧ ∀ A : Array Value, A.size = 4 → (Tryz.prog.info? 23).map (·.size) = some A.size := zero_row (by kernel_rfl)
theorem zero_b : ∃ Z, IsRow 16 (fun _ => 0) Z ∧ (∀ f, rowL 16 f 0 = Z) ∧ (∀ w, (zeroValue 32).run Tryz.prog w = .ok (.agg Z) w) ∧ ∀ A : Array Value, A.size = 16 → (Tryz.prog.info? 32).map (·.size) = some A.size := zero_row (by kernel_rfl)
theorem zero_a : ∃ Z, IsRow 16 (fun _ => 0) Z ∧ (∀ f, rowL 16 f 0 = Z) ∧ (∀ w, (zeroValue 22).run Tryz.prog w = .ok (.agg Z) w) ∧ ∀ A : Array Value, A.size = 16 → (Tryz.prog.info? 22).map (·.size) = some A.size := zero_row (by kernel_rfl)

/-! States written out. -/
def pl (i : Nat) : Option (Nat × Nat) := #[(0, 16), (16, 1), (17, 4), (21, 16), (37, 1)][i]?
/-- The types of states. -/
def IsSt (t : TypeId) : Prop := ∀ parts, Tryz.prog.built t parts = Instr.fill pl (Array.replicate 38 (.int .i64 0)) parts
theorem isSt_p : IsSt 34 := fun parts => by kernel_rfl
theorem isSt_r : IsSt 25 := fun parts => by kernel_rfl

theorem built_0 {t : TypeId} (ht : IsSt t) : ∃ T, IsRow 38 (fun _ => 0) T ∧ Tryz.prog.built t [] = some T := ⟨_, isRow_zero 38, by rw [ht]; rfl⟩
theorem built_1 {t : TypeId} (ht : IsSt t) (L : Int) : ∃ T, IsRow 38 (stF (fun _ => 0) L (fun _ => 0) (fun _ => 0) 0) T ∧ Tryz.prog.built t [(1, .int .i64 L)] = some T := by
  obtain ⟨C, hC, e⟩ := fill_int (place := pl) (i := 1) (x := L) (rest := []) rfl (isRow_zero 38) (show 16 < 38 by omega)
  refine ⟨C, hC.ext fun k hk => ?_, by rw [ht, e]; rfl⟩
  show (if k = 16 then L else 0) = stF _ _ _ _ _ k
  unfold stF
  by_cases c : k = 16
  · subst c; rfl
  · rw [if_neg c]; simp [c]
theorem built_3 {t : TypeId} (ht : IsSt t) {V U : Array Value} {v u : Nat → Int} (hV : IsRow 4 v V) (hU : IsRow 16 u U) (z : Int) : ∃ T, IsRow 38 (stF (fun _ => 0) 0 v u z) T ∧ Tryz.prog.built t [(2, .agg V), (3, .agg U), (4, .int .i64 z)] = some T := by
  obtain ⟨C, hC, e⟩ := fill_agg (place := pl) (i := 2) (rest := [(3, .agg U), (4, .int .i64 z)]) rfl (isRow_zero 38) hV (show 17 + 4 ≤ 38 by omega)
  obtain ⟨D, hD, e1⟩ := fill_agg (place := pl) (i := 3) (rest := [(4, .int .i64 z)]) rfl hC hU (show 21 + 16 ≤ 38 by omega)
  obtain ⟨E, hE, e2⟩ := fill_int (place := pl) (i := 4) (x := z) (rest := []) rfl hD (show 37 < 38 by omega)
  refine ⟨E, hE.ext fun k hk => ?_, by rw [ht, e, e1, e2]; rfl⟩
  show (if k = 37 then z else over (over (fun _ => 0) v 17 4) u 21 16 k) = stF _ _ _ _ _ k
  unfold over stF
  dsimp only
  repeat' split
  all_goals (try dsimp only)
  all_goals (repeat' split)
  all_goals first | rfl | omega
theorem built_4 {t : TypeId} (ht : IsSt t) {V U : Array Value} {v u : Nat → Int} (L : Int) (hV : IsRow 4 v V) (hU : IsRow 16 u U) (z : Int) : ∃ T, IsRow 38 (stF (fun _ => 0) L v u z) T ∧ Tryz.prog.built t [(1, .int .i64 L), (2, .agg V), (3, .agg U), (4, .int .i64 z)] = some T := by
  obtain ⟨B, hB, e0⟩ := fill_int (place := pl) (i := 1) (x := L) (rest := [(2, .agg V), (3, .agg U), (4, .int .i64 z)]) rfl (isRow_zero 38) (show 16 < 38 by omega)
  obtain ⟨C, hC, e⟩ := fill_agg (place := pl) (i := 2) (rest := [(3, .agg U), (4, .int .i64 z)]) rfl hB hV (show 17 + 4 ≤ 38 by omega)
  obtain ⟨D, hD, e1⟩ := fill_agg (place := pl) (i := 3) (rest := [(4, .int .i64 z)]) rfl hC hU (show 21 + 16 ≤ 38 by omega)
  obtain ⟨E, hE, e2⟩ := fill_int (place := pl) (i := 4) (x := z) (rest := []) rfl hD (show 37 < 38 by omega)
  refine ⟨E, hE.ext fun k hk => ?_, by rw [ht, e0, e, e1, e2]; rfl⟩
  show (if k = 37 then z else over (over (fun j => if j = 16 then L else 0) v 17 4) u 21 16 k) = stF _ _ _ _ _ k
  unfold over stF
  dsimp only
  repeat' split
  all_goals (try dsimp only)
  all_goals (repeat' split)
  all_goals first | rfl | omega
theorem built_5 {t : TypeId} (ht : IsSt t) {M V U : Array Value} {m v u : Nat → Int} (hM : IsRow 16 m M) (L : Int) (hV : IsRow 4 v V) (hU : IsRow 16 u U) (z : Int) : ∃ T, IsRow 38 (stF m L v u z) T ∧ Tryz.prog.built t [(0, .agg M), (1, .int .i64 L), (2, .agg V), (3, .agg U), (4, .int .i64 z)] = some T := by
  obtain ⟨A, hA, ea⟩ := fill_agg (place := pl) (i := 0) (rest := [(1, .int .i64 L), (2, .agg V), (3, .agg U), (4, .int .i64 z)]) rfl (isRow_zero 38) hM (show 0 + 16 ≤ 38 by omega)
  obtain ⟨B, hB, e0⟩ := fill_int (place := pl) (i := 1) (x := L) (rest := [(2, .agg V), (3, .agg U), (4, .int .i64 z)]) rfl hA (show 16 < 38 by omega)
  obtain ⟨C, hC, e⟩ := fill_agg (place := pl) (i := 2) (rest := [(3, .agg U), (4, .int .i64 z)]) rfl hB hV (show 17 + 4 ≤ 38 by omega)
  obtain ⟨D, hD, e1⟩ := fill_agg (place := pl) (i := 3) (rest := [(4, .int .i64 z)]) rfl hC hU (show 21 + 16 ≤ 38 by omega)
  obtain ⟨E, hE, e2⟩ := fill_int (place := pl) (i := 4) (x := z) (rest := []) rfl hD (show 37 < 38 by omega)
  refine ⟨E, hE.ext fun k hk => ?_, by rw [ht, ea, e0, e, e1, e2]; rfl⟩
  show (if k = 37 then z else over (over (fun j => if j = 16 then L else over (fun _ => 0) m 0 16 j) v 17 4) u 21 16 k) = stF _ _ _ _ _ k
  unfold over stF
  dsimp only
  repeat' split
  all_goals (try dsimp only)
  all_goals (repeat' split)
  all_goals first | rfl | omega

/-! States compared. -/
theorem part_row {ty : TypeId} {l n : Nat} {T : Array Value} {d : TypeDesc} (hu : Tryz.prog.underlying ty = some d) (hd : d.isRow = true) (hi : ∀ A : Array Value, A.size = n → (Tryz.prog.info? ty).map (·.size) = some A.size) (w : World) :
    (part ty T l).run Tryz.prog w = .ok (.agg (T.extract l (l + n))) w := by
  have h1 : (sizeOf ty).run Tryz.prog w = .ok n w := by
    have h := hi (Array.replicate n .nilFunc) (by simp)
    rw [Array.size_replicate] at h
    cases hq : Tryz.prog.info? ty with
    | none => rw [hq] at h; cases h
    | some i =>
      rw [hq] at h
      injection h with h
      simp [sizeOf, typeInfo, hq, h]
  have h2 : (isAgg ty).run Tryz.prog w = .ok true w := by
    unfold isAgg
    rw [Sem.run_bind, run_underlying hu w]
    cases d <;> simp_all
  unfold part
  simp only [Sem.run_bind, h2, Result.andThen_ok, h1, if_true, Sem.run_pure]
theorem part_num {T : Array Value} {i : Nat} {x : Int} (h : T[i]? = some (.int .i64 x)) (w : World) : (part 3 T i).run Tryz.prog w = .ok (.int .i64 x) w := by
  have := part_int h w
  rwa [Nat.mul_one] at this

/-- A field of T is what it is. -/
def Fld (d : Nat) (T : Array Value) (f : Field) : Prop := ∀ w, ∃ a, (part f.type T f.offset).run Tryz.prog w = .ok a w ∧ (Op.equalIn d f.type a a).run Tryz.prog w = .ok true w
theorem eq_fields {d : Nat} {T : Array Value} : ∀ fs : List Field, (∀ f ∈ fs, Fld d T f) → ∀ w, (Op.eqFields d T T fs).run Tryz.prog w = .ok true w
  | [], _, w => rfl
  | f :: fs, h, w => by
    obtain ⟨a, h1, h2⟩ := h f (List.mem_cons_self ..) w
    have ih := eq_fields fs (fun f hf => h f (List.mem_cons_of_mem _ hf)) w
    unfold Op.eqFields
    split
    · simp only [Sem.run_bind, h1, h2, Result.andThen_ok]
      exact ih
    · exact ih
theorem fld_row {d : Nat} {T : Array Value} {f : Nat → Int} {ty : TypeId} {l n m : Nat} {nm tg pk : String} {em : Bool} {bo : Nat} (hT : IsRow m f T) (hm : l + n ≤ m) (hu : Tryz.prog.underlying ty = some (.array n 3)) (hi : ∀ A : Array Value, A.size = n → (Tryz.prog.info? ty).map (·.size) = some A.size) :
    Fld (d + 2) T ⟨nm, ty, l, em, tg, pk, bo⟩ := fun w => ⟨_, part_row hu rfl hi w, by
      rw [run_rows (d := d) hu (hT.sub hm) (hT.sub hm) w]
      congr 1
      rw [List.all_eq_true]
      intro i _
      rw [beq_iff_eq]⟩
theorem fld_num {d : Nat} {T : Array Value} {f : Nat → Int} {l m : Nat} {nm tg pk : String} {em : Bool} {bo : Nat} (hT : IsRow m f T) (hm : l < m) :
    Fld (d + 1) T ⟨nm, 3, l, em, tg, pk, bo⟩ := fun w => ⟨_, part_num (hT.2.2 l hm) w, by
      rw [run_equalIn_int w d _ .i64 .i64 _ _ Tryz.underlying3]
      congr 1
      rw [beq_iff_eq]⟩
theorem st_eq_p {f g : Nat → Int} {T U : Array Value} (hT : IsRow 38 f T) (hU : IsRow 38 g U) (e : ∀ k, k < 38 → f k = g k) (w : World) : (Op.equalIn 10000 34 (.agg T) (.agg U)).run Tryz.prog w = .ok true w := by
  obtain rfl := hT.eq hU e
  obtain ⟨_, _, _, _, hb⟩ := zero_b
  obtain ⟨_, _, _, _, h4⟩ := zero_4
  rw [run_equalIn_agg w 9999 _ T T (by unfold Program.fieldsOf; rw [Tryz.underlying34]) Tryz.stoodInHeld34]
  refine eq_fields _ ?_ w
  unfold Program.fieldsOf
  rw [Tryz.underlying34]
  intro x hx
  simp only [List.mem_cons, List.not_mem_nil, or_false] at hx
  rcases hx with rfl | rfl | rfl | rfl | rfl
  · exact fld_row (n := 16) hT (by omega) Tryz.underlying32 hb
  · exact fld_num hT (by omega)
  · exact fld_row (n := 4) hT (by omega) Tryz.underlying23 h4
  · exact fld_row (n := 16) hT (by omega) Tryz.underlying32 hb
  · exact fld_num hT (by omega)
theorem st_eq_r {f g : Nat → Int} {T U : Array Value} (hT : IsRow 38 f T) (hU : IsRow 38 g U) (e : ∀ k, k < 38 → f k = g k) (w : World) : (Op.equalIn 10000 25 (.agg T) (.agg U)).run Tryz.prog w = .ok true w := by
  obtain rfl := hT.eq hU e
  obtain ⟨_, _, _, _, hb⟩ := zero_a
  obtain ⟨_, _, _, _, h4⟩ := zero_4
  rw [run_equalIn_agg w 9999 _ T T (by unfold Program.fieldsOf; rw [Tryz.underlying25]) Tryz.stoodInHeld25]
  refine eq_fields _ ?_ w
  unfold Program.fieldsOf
  rw [Tryz.underlying25]
  intro x hx
  simp only [List.mem_cons, List.not_mem_nil, or_false] at hx
  rcases hx with rfl | rfl | rfl | rfl | rfl
  · exact fld_row (n := 16) hT (by omega) Tryz.underlying22 hb
  · exact fld_num hT (by omega)
  · exact fld_row (n := 4) hT (by omega) Tryz.underlying23 h4
  · exact fld_row (n := 16) hT (by omega) Tryz.underlying22 hb
  · exact fld_num hT (by omega)

/-- A state that came in. -/
theorem open_st {H : Type} {enc : TypeId × Value → H} {W : World} {r : Reach} {base b0 : Nat} {sp : Nat → Bool} {held : Bool} {v : Value} {d : DataW H} {ps : List MemPlace}
    (hok : Value.okWide Tryz.prog W r b0 25 v) (h : DataW.Trod enc Tryz.prog W base sp held 25 v d ps) :
    ∃ T : Array Value, v = .agg T ∧ IsRow 38 (intsOf T) T ∧ ∀ k, k < 38 → (Lit.int .i64 (intsOf T k)).wf = true := by
  have fi : Flat enc W base sp held 3 := Flat.int Tryz.underlying3 (by kernel_rfl)
  have fb : Flat enc W base sp held 22 := Flat.array fi Tryz.underlying22 (by kernel_rfl)
  have f4 : Flat enc W base sp held 23 := Flat.array fi Tryz.underlying23 (by kernel_rfl)
  have c16 : Tryz.prog.cellsOf 22 = 16 := by kernel_rfl
  have c4 : Tryz.prog.cellsOf 23 = 4 := by kernel_rfl
  have c1 : Tryz.prog.cellsOf 3 = 1 := by kernel_rfl
  have c38 : Tryz.prog.cellsOf 25 = 38 := by kernel_rfl
  refine open_flat Tryz.underlying25 rfl (Flat.struct Tryz.underlying25 ?_ ?_) c38 hok h
  · intro i f hf
    match i, hf with
    | 0, hf => injection hf with hf; subst hf; exact fb
    | 1, hf => injection hf with hf; subst hf; exact fi
    | 2, hf => injection hf with hf; subst hf; exact f4
    | 3, hf => injection hf with hf; subst hf; exact fb
    | 4, hf => injection hf with hf; subst hf; exact fi
    | n + 5, hf => simp at hf
  · intro k hk
    rw [c38] at hk
    by_cases k1 : k < 16
    · exact ⟨0, _, rfl, Nat.zero_le _, by show k < 0 + Tryz.prog.cellsOf 22; rw [c16]; omega⟩
    · by_cases k2 : k < 17
      · exact ⟨1, _, rfl, by show 16 ≤ k; omega, by show k < 16 + Tryz.prog.cellsOf 3; rw [c1]; omega⟩
      · by_cases k3 : k < 21
        · exact ⟨2, _, rfl, by show 17 ≤ k; omega, by show k < 17 + Tryz.prog.cellsOf 23; rw [c4]; omega⟩
        · by_cases k4 : k < 37
          · exact ⟨3, _, rfl, by show 21 ≤ k; omega, by show k < 21 + Tryz.prog.cellsOf 22; rw [c16]; omega⟩
          · exact ⟨4, _, rfl, by show 37 ≤ k; omega, by show k < 37 + Tryz.prog.cellsOf 3; rw [c1]; omega⟩
end Go.Proofs.YtfohinlldchdpaaGreatDoor.Sta
end

section
/- A state's fields in regions that draw their order. -/
set_option maxRecDepth 100000
namespace Go.Proofs.YtfohinlldchdpaaGreatDoor.Sta
open Go.RowKit Go.Proofs.YtfohinlldchdpaaGreatDoor.Row

/-- Field i of the struct t lies o cells behind its begin. -/
def FldAt (t : TypeId) (i o : Nat) : Prop := ∀ b w, (Instr.fieldAt t (.pointer (some ⟨b, 0, none⟩)) i).run Tryz.prog w = .ok (.pointer (some ⟨b, o, none⟩)) w
theorem fld_p0 : FldAt 34 0 0 := fun b w => by
  unfold Instr.fieldAt
  simp [Sem.run_bind, run_underlying Tryz.underlying34, Instr.sureAddr, go_sem, Addr.add]
theorem fld_p1 : FldAt 34 1 16 := fun b w => by
  unfold Instr.fieldAt
  simp [Sem.run_bind, run_underlying Tryz.underlying34, Instr.sureAddr, go_sem, Addr.add]
theorem fld_r0 : FldAt 25 0 0 := fun b w => by
  unfold Instr.fieldAt
  simp [Sem.run_bind, run_underlying Tryz.underlying25, Instr.sureAddr, go_sem, Addr.add]
theorem fld_r1 : FldAt 25 1 16 := fun b w => by
  unfold Instr.fieldAt
  simp [Sem.run_bind, run_underlying Tryz.underlying25, Instr.sureAddr, go_sem, Addr.add]
theorem fld_r2 : FldAt 25 2 17 := fun b w => by
  unfold Instr.fieldAt
  simp [Sem.run_bind, run_underlying Tryz.underlying25, Instr.sureAddr, go_sem, Addr.add]
theorem fld_r4 : FldAt 25 4 37 := fun b w => by
  unfold Instr.fieldAt
  simp [Sem.run_bind, run_underlying Tryz.underlying25, Instr.sureAddr, go_sem, Addr.add]

theorem y_field {ops : Array Oper} {S : World → Prop} {oi : Oper} {a : Act} {t : TypeId} {y : Operand} {b i o : Nat} (hw : Region.wanted oi (yielded ops a.tmps) = true) (ho : oi.op = .fieldAddr t y i) (hy : a.eval y = .pointer (some ⟨b, 0, none⟩)) (hf : FldAt t i o) :
    YieldsIf Tryz.prog ops S oi (.pointer (some ⟨b, o, none⟩)) a :=
  y_run hw fun w => by
    unfold execOp
    simp only [ho, hy, hf b w, Sem.run_bind, Result.andThen_ok, Sem.run_pure]
end Go.Proofs.YtfohinlldchdpaaGreatDoor.Sta
end

section
/- Slices of strings of the function's own: what they hold, one more appended. For every package. -/
set_option maxRecDepth 100000
set_option linter.unusedVariables false
namespace Go.Proofs.YtfohinlldchdpaaGreatDoor.Row
open Go.RowKit

def sgL (G : Nat → ByteArray) (n : Nat) : List Value := (List.range n).map fun i => .string (G i)
theorem sgL_length (G : Nat → ByteArray) (n : Nat) : (sgL G n).length = n := by unfold sgL; simp
theorem sgL_get (G : Nat → ByteArray) (n i : Nat) (hi : i < n) : (sgL G n)[i]? = some (.string (G i)) := by unfold sgL; simp [hi]
theorem sgL_next (G : Nat → ByteArray) (n : Nat) : sgL G n ++ [.string (G n)] = sgL G (n + 1) := by unfold sgL; rw [List.range_succ, List.map_append]; rfl

/-- 'a, n, c' is a slice of its own, of n strings. -/
def Sgs (w : World) (B : Nat) (a : Option Addr) (n c : Nat) (G : Nat → ByteArray) : Prop := w.ownsRow B 9 1 (.slice a n c) n (sgL G n)
theorem Sgs.nil (w : World) (B : Nat) (G : Nat → ByteArray) : Sgs w B none 0 0 G := ⟨by rw [sgL_length], .inl ⟨rfl, rfl⟩⟩
theorem Sgs.below {w w' : World} {B n c : Nat} {a : Option Addr} {G : Nat → ByteArray} (h : Sgs w B a n c G) (hb : Below w.heap.size w w') : Sgs w' B a n c G := owns_below h hb
theorem Sgs.wide {w : World} {B B' n c : Nat} {a : Option Addr} {G : Nat → ByteArray} (h : Sgs w B a n c G) (hB : B' ≤ B) : Sgs w B' a n c G := by
  obtain ⟨h1, h2 | ⟨g, cap, cur, e, h3, h4⟩⟩ := h
  · exact ⟨h1, .inl h2⟩
  · exact ⟨h1, .inr ⟨g, cap, cur, e, by omega, h4⟩⟩
/-- What leaves its block on. -/
theorem Sgs.keep {w w' : World} {B n c : Nat} {a : Option Addr} {G : Nat → ByteArray} (h : Sgs w B a n c G) (hk : ∀ g, (Value.slice a n c).ownBlock = some g → w'.heap[g]? = w.heap[g]?) : Sgs w' B a n c G := by
  obtain ⟨h1, h2 | ⟨g, cap, cur, e, h3, h4, h5⟩⟩ := h
  · exact ⟨h1, .inl h2⟩
  · refine ⟨h1, .inr ⟨g, cap, cur, e, h3, ?_, h5⟩⟩
    rw [hk g (by rw [e]; rfl)]; exact h4
theorem Sgs.block {w : World} {B n c : Nat} {a : Option Addr} {G : Nat → ByteArray} (h : Sgs w B a n c G) (k : Nat) (hk : (Value.slice a n c).ownBlock = some k) : B ≤ k ∧ k < w.heap.size := by
  obtain ⟨_, ⟨e, _⟩ | ⟨g, cap, cur, e, h3, h4, _⟩⟩ := h
  · rw [e] at hk; cases hk
  · rw [e] at hk
    simp only [Value.ownBlock, Option.some.injEq] at hk
    subst hk
    exact ⟨h3, (Array.getElem?_eq_some_iff.1 h4).1⟩
theorem Sgs.setRow {w : World} {B n c b : Nat} {a : Option Addr} {G : Nat → ByteArray} (h : Sgs w B a n c G) (hb : b < B) (C : Array Value) : Sgs (w.setRow b C) B a n c G :=
  h.keep fun g hg => by
    have hne : b ≠ g := by have := (h.block g hg).1; omega
    unfold World.setRow
    simp [Array.getElem?_modify, hne]
theorem Sgs.addr {w : World} {B n c : Nat} {a : Option Addr} {G : Nat → ByteArray} (h : Sgs w B a n c G) (hn : 0 < n) : ∃ g, a = some ⟨g, 0, none⟩ ∧ B ≤ g ∧ g < w.heap.size := by
  obtain ⟨_, h2 | ⟨g, cap, cur, e, h3, h4, _⟩⟩ := h
  · omega
  · simp only [Value.slice.injEq] at e
    exact ⟨g, e.1, h3, (Array.getElem?_eq_some_iff.1 h4).1⟩
theorem Sgs.cap {w : World} {B n c : Nat} {a : Option Addr} {G : Nat → ByteArray} (h : Sgs w B a n c G) : n ≤ c ∧ c ≤ maxLen := by
  obtain ⟨_, ⟨e, h0⟩ | ⟨g, cap, cur, e, _, _, h5, h6, _⟩⟩ := h
  · simp only [Value.slice.injEq] at e
    rw [h0, e.2.2]; exact ⟨by omega, by unfold maxLen; omega⟩
  · simp only [Value.slice.injEq] at e
    rw [e.2.2]; exact ⟨h5, h6⟩
theorem Sgs.cell {w : World} {B n c g i : Nat} {G : Nat → ByteArray} (h : Sgs w B (some ⟨g, 0, none⟩) n c G) (hi : i < n) : w.cell? ⟨g, i, none⟩ = some (.string (G i)) := by
  have := World.ownsRow.cells h (g := g) rfl i _ (sgL_get G n i hi)
  rw [Go.WideShapes.add_plain, Nat.zero_add] at this
  exact this
theorem Sgs.ext {w : World} {B n c : Nat} {a : Option Addr} {G H : Nat → ByteArray} (h : Sgs w B a n c G) (e : ∀ i, i < n → G i = H i) : Sgs w B a n c H := by
  have : sgL G n = sgL H n := by
    unfold sgL
    refine List.map_congr_left fun q hq => ?_
    rw [e q (List.mem_range.1 hq)]
  unfold Sgs; rw [← this]; exact h

theorem info_string : ∃ i, Tryz.prog.info? 9 = some i ∧ i.zero = some (.string ⟨#[]⟩) ∧ i.size = 1 ∧ i.bytes = 16 := info_parts (by kernel_rfl)

/-- 'p = append(p, x)', one string. -/
theorem wpList_append_string {ops : Array Oper} {rest : List Oper} {o : Oper} {a : Act} {w : World} {Q : Exit → Act → World → Prop} (hgd : o.guard = none) (s x : Operand)
    (ho : o.op = .call { callee := .builtin .append, args := #[s, x], argTypes := #[43, 43] })
    (B : Nat) (G : Nat → ByteArray) (ao : Option Addr) (n c : Nat) (hs : a.eval s = .slice ao n c) (hown : Sgs w B ao n c G)
    (b : Nat) (hx : a.eval x = .slice (some ⟨b, 0, none⟩) 1 1) (hnew : w.cell? ⟨b, 0, none⟩ = some (.string (G n))) (hn : n + 1 ≤ 1000000) (hB : B ≤ w.heap.size)
    (h : ∀ a' c' w', Sgs w' B a' (n + 1) c' G → Below B w w' → w.grownBy w' (Value.slice ao n c).ownBlock → wpList Tryz.prog ops Q rest (a.put o.dst (.slice a' (n + 1) c')) w') : wpList Tryz.prog ops Q (o :: rest) a w := by
  obtain ⟨i, hi, hz, hsz, hby⟩ := info_string
  refine wpList_append_own_at w hgd s x 43 ho B 9 i _ 1 16 Tryz.underlying43 hi hz hsz hby rfl (by decide) (.slice ao n c) n (sgL G n) hs hown ⟨b, 0, none⟩ 1 1 [.string (G n)] hx rfl ?_ ?_ (by unfold maxLen; omega) (by omega) hB ?_
  · intro j u hj
    match j, hj with
    | 0, hj => simp at hj; subst hj; simpa [Addr.add] using hnew
  · intro u hu; simp at hu; subst hu; rfl
  · intro v' w' hown' hg _ hat
    rw [sgL_next G n] at hown'
    obtain ⟨_, h2⟩ := id hown'
    rcases h2 with ⟨_, h0⟩ | ⟨g, c', cur, rfl, _⟩
    · omega
    · exact h _ c' w' hown' ((Below.refl B w).grown hg hB fun k hk => (hown.block k hk).1) hg
end Go.Proofs.YtfohinlldchdpaaGreatDoor.Row
end

section
/- Slices of blocks (16 numbers each, by value) of the function's own: what they hold, one more appended, a slice of one block written out. For every package. -/
set_option maxRecDepth 100000
set_option linter.unusedVariables false
namespace Go.Proofs.YtfohinlldchdpaaGreatDoor.Row
open Go.RowKit

/-- The numbers of n blocks, one behind the other. -/
def bkL (F : Nat → Nat → Int) (n : Nat) : List Value := intsL (fun q => F (q / 16) (q % 16)) (n * 16)
theorem bkL_length (F : Nat → Nat → Int) (n : Nat) : (bkL F n).length = n * 16 := intsL_length _ _
theorem bkL_get (F : Nat → Nat → Int) (n i j : Nat) (hi : i < n) (hj : j < 16) : (bkL F n)[i * 16 + j]? = some (.int .i64 (F i j)) := by
  unfold bkL
  rw [intsL_get _ _ _ (by omega), show (i * 16 + j) / 16 = i by omega, show (i * 16 + j) % 16 = j by omega]
theorem bkL_next (F : Nat → Nat → Int) (n : Nat) {R : Array Value} (hR : IsRow 16 (F n) R) : bkL F n ++ R.toList = bkL F (n + 1) := by
  apply List.ext_getElem?
  intro q
  by_cases h1 : q < n * 16
  · rw [List.getElem?_append_left (by rw [bkL_length]; exact h1)]
    obtain ⟨i, j, hj, rfl⟩ : ∃ i j, j < 16 ∧ q = i * 16 + j := ⟨q / 16, q % 16, by omega, by omega⟩
    rw [bkL_get F n i j (by omega) hj, bkL_get F (n + 1) i j (by omega) hj]
  · rw [List.getElem?_append_right (by rw [bkL_length]; omega), bkL_length]
    by_cases h2 : q < n * 16 + 16
    · obtain ⟨j, hj, rfl⟩ : ∃ j, j < 16 ∧ q = n * 16 + j := ⟨q - n * 16, by omega, by omega⟩
      rw [bkL_get F (n + 1) n j (by omega) hj, Nat.add_sub_cancel_left, Array.getElem?_toList, hR.2.2 j hj]
    · rw [List.getElem?_eq_none (by rw [Array.length_toList, hR.1]; omega), List.getElem?_eq_none (by rw [bkL_length]; omega)]
theorem bkL_ext {F G : Nat → Nat → Int} {n : Nat} (e : ∀ i, i < n → ∀ j, j < 16 → F i j = G i j) : bkL F n = bkL G n := by
  unfold bkL intsL
  refine List.map_congr_left fun q hq => ?_
  have := List.mem_range.1 hq
  dsimp only
  rw [e (q / 16) (by omega) (q % 16) (by omega)]

/-- 'a, n, c' is a slice of its own, of n blocks. -/
def Bks (w : World) (B : Nat) (a : Option Addr) (n c : Nat) (F : Nat → Nat → Int) : Prop := w.ownsRow B 32 16 (.slice a n c) n (bkL F n)
theorem Bks.nil (w : World) (B : Nat) (F : Nat → Nat → Int) : Bks w B none 0 0 F := ⟨by rw [bkL_length], .inl ⟨rfl, rfl⟩⟩
theorem Bks.below {w w' : World} {B n c : Nat} {a : Option Addr} {F : Nat → Nat → Int} (h : Bks w B a n c F) (hb : Below w.heap.size w w') : Bks w' B a n c F := owns_below h hb
theorem Bks.ext {w : World} {B n c : Nat} {a : Option Addr} {F G : Nat → Nat → Int} (h : Bks w B a n c F) (e : ∀ i, i < n → ∀ j, j < 16 → F i j = G i j) : Bks w B a n c G := by
  unfold Bks; rw [← bkL_ext e]; exact h
theorem Bks.wide {w : World} {B B' n c : Nat} {a : Option Addr} {F : Nat → Nat → Int} (h : Bks w B a n c F) (hB : B' ≤ B) : Bks w B' a n c F := by
  obtain ⟨h1, h2 | ⟨g, cap, cur, e, h3, h4⟩⟩ := h
  · exact ⟨h1, .inl h2⟩
  · exact ⟨h1, .inr ⟨g, cap, cur, e, by omega, h4⟩⟩
/-- What leaves all blocks from B on. -/
theorem Bks.keep {w w' : World} {B n c : Nat} {a : Option Addr} {F : Nat → Nat → Int} (h : Bks w B a n c F) (hk : ∀ g, B ≤ g → g < w.heap.size → w'.heap[g]? = w.heap[g]?) : Bks w' B a n c F := by
  obtain ⟨h1, h2 | ⟨g, cap, cur, e, h3, h4, h5⟩⟩ := h
  · exact ⟨h1, .inl h2⟩
  · refine ⟨h1, .inr ⟨g, cap, cur, e, h3, ?_, h5⟩⟩
    rw [hk g h3 (Array.getElem?_eq_some_iff.1 h4).1]; exact h4
theorem Bks.setRow {w : World} {B n c b : Nat} {a : Option Addr} {F : Nat → Nat → Int} (h : Bks w B a n c F) (hb : b < B) (C : Array Value) : Bks (w.setRow b C) B a n c F :=
  h.keep fun g hg _ => by
    have hne : b ≠ g := by omega
    unfold World.setRow
    simp [Array.getElem?_modify, hne]
theorem Bks.addr {w : World} {B n c : Nat} {a : Option Addr} {F : Nat → Nat → Int} (h : Bks w B a n c F) (hn : 0 < n) : ∃ g, a = some ⟨g, 0, none⟩ ∧ B ≤ g ∧ g < w.heap.size := by
  obtain ⟨_, h2 | ⟨g, cap, cur, e, h3, h4, _⟩⟩ := h
  · omega
  · simp only [Value.slice.injEq] at e
    exact ⟨g, e.1, h3, (Array.getElem?_eq_some_iff.1 h4).1⟩
theorem Bks.cap {w : World} {B n c : Nat} {a : Option Addr} {F : Nat → Nat → Int} (h : Bks w B a n c F) : n ≤ c ∧ c ≤ maxLen := by
  obtain ⟨_, ⟨e, h0⟩ | ⟨g, cap, cur, e, _, _, h5, h6, _⟩⟩ := h
  · simp only [Value.slice.injEq] at e
    rw [h0, e.2.2]; exact ⟨by omega, by unfold maxLen; omega⟩
  · simp only [Value.slice.injEq] at e
    rw [e.2.2]; exact ⟨h5, h6⟩
theorem Bks.block {w : World} {B n c : Nat} {a : Option Addr} {F : Nat → Nat → Int} (h : Bks w B a n c F) (k : Nat) (hk : (Value.slice a n c).ownBlock = some k) : B ≤ k ∧ k < w.heap.size := by
  obtain ⟨_, ⟨e, _⟩ | ⟨g, cap, cur, e, h3, h4, _⟩⟩ := h
  · rw [e] at hk; cases hk
  · rw [e] at hk
    simp only [Value.ownBlock, Option.some.injEq] at hk
    subst hk
    exact ⟨h3, (Array.getElem?_eq_some_iff.1 h4).1⟩
theorem Bks.cell {w : World} {B n c g i j : Nat} {F : Nat → Nat → Int} (h : Bks w B (some ⟨g, 0, none⟩) n c F) (hi : i < n) (hj : j < 16) : w.cell? ⟨g, i * 16 + j, none⟩ = some (.int .i64 (F i j)) := by
  have := World.ownsRow.cells h (g := g) rfl (i * 16 + j) _ (bkL_get F n i j hi hj)
  rw [Go.WideShapes.add_plain, Nat.zero_add] at this
  exact this
theorem Bks.range {w : World} {B n c g i : Nat} {F : Nat → Nat → Int} {R : Array Value} (h : Bks w B (some ⟨g, 0, none⟩) n c F) (hi : i < n) (hR : IsRow 16 (F i) R) : w.rangeAt g (i * 16) R.toList := fun j v hv => by
  have hj : j < 16 := by
    have := (List.getElem?_eq_some_iff.1 hv).1
    rw [Array.length_toList, hR.1] at this
    exact this
  rw [Array.getElem?_toList, hR.2.2 j hj] at hv
  injection hv with hv
  rw [← hv]
  exact h.cell hi hj

/-- A row that grows changes no block but its own. -/
theorem At.grown {w w' : World} {b : Nat} {A : Array Value} {t : TypeId} {row : Option Nat} (hA : At w b A t) (h : w.grownBy w' row) (hr : row ≠ some b) : At w' b A t :=
  (h.block b hA.lt fun e => hr e.symm).trans hA

theorem info_block : ∃ i, Tryz.prog.info? 32 = some i ∧ i.zero = some (.agg (Array.replicate 16 (.int .i64 0))) ∧ i.size = 16 ∧ i.bytes = 128 := info_parts (by kernel_rfl)

/-- 'p = append(p, y)', one block. -/
theorem wpList_append_block {ops : Array Oper} {rest : List Oper} {o : Oper} {a : Act} {w : World} {Q : Exit → Act → World → Prop} (hgd : o.guard = none) (s x : Operand)
    (ho : o.op = .call { callee := .builtin .append, args := #[s, x], argTypes := #[29, 29] })
    (B : Nat) (F : Nat → Nat → Int) (ao : Option Addr) (n c : Nat) (hs : a.eval s = .slice ao n c) (hown : Bks w B ao n c F)
    (b : Nat) (hx : a.eval x = .slice (some ⟨b, 0, none⟩) 1 1) {R : Array Value} (hnew : At w b R 32) (hR : IsRow 16 (F n) R) (hn : n + 1 ≤ 1000000) (hB : B ≤ w.heap.size)
    (h : ∀ a' c' w', Bks w' B a' (n + 1) c' F → Below B w w' → w.grownBy w' (Value.slice ao n c).ownBlock → wpList Tryz.prog ops Q rest (a.put o.dst (.slice a' (n + 1) c')) w') : wpList Tryz.prog ops Q (o :: rest) a w := by
  obtain ⟨i, hi, hz, hsz, hby⟩ := info_block
  refine wpList_append_own_at w hgd s x 29 ho B 32 i _ 16 128 Tryz.underlying29 hi hz hsz hby rfl (by decide) (.slice ao n c) n (bkL F n) hs hown ⟨b, 0, none⟩ 1 1 R.toList hx (by rw [Array.length_toList, hR.1]) ?_ ?_ (by unfold maxLen; omega) (by omega) hB ?_
  · intro j u hj
    rw [Go.WideShapes.add_plain, Nat.zero_add, hnew.cell, ← Array.getElem?_toList]
    exact hj
  · intro u hu
    have := Array.all_eq_true_iff_forall_mem.1 hR.2.1 u (by simpa using hu)
    exact this
  · intro v' w' hown' hg _ hat
    rw [bkL_next F n hR] at hown'
    obtain ⟨_, h2⟩ := id hown'
    rcases h2 with ⟨_, h0⟩ | ⟨g, c', cur, rfl, _⟩
    · omega
    · exact h _ c' w' hown' ((Below.refl B w).grown hg hB fun k hk => (hown.block k hk).1) hg

/-- A slice of one block written out. -/
theorem run_slice_one {f : Nat → Int} {R : Array Value} (hR : IsRow 16 f R) (w : World) :
    (Instr.buildSlice 29 1 #[(0, .agg R)]).run Tryz.prog w = .ok (.slice (some ⟨w.heap.size, 0, none⟩) 1 1) (w.alloc (.cells R 32)) := by
  obtain ⟨Z, hZ, _, hz, hi⟩ : ∃ Z, IsRow 16 (fun _ => 0) Z ∧ (∀ f, rowL 16 f 0 = Z) ∧ (∀ w, (zeroValue 32).run Tryz.prog w = .ok (.agg Z) w) ∧ ∀ A : Array Value, A.size = 16 → (Tryz.prog.info? 32).map (·.size) = some A.size := zero_row (by kernel_rfl)
  have hsz : ∀ w, (sizeOf 32).run Tryz.prog w = .ok 16 w := fun w => by
    obtain ⟨i, h1, _, h2, _⟩ := info_block
    simp [sizeOf, typeInfo, h1, h2]
  have r1 : Instr.fill (fun i => some (i * 16, 16)) ((Array.range (1 * 16)).map (Z[· % Z.size]!)) [(0, .agg R)] = some R := by
    obtain ⟨p1, p2⟩ := fold_lay R.toList 0 0 ((Array.range (1 * 16)).map (Z[· % Z.size]!))
    rw [fill_step (l := 0) (n := 16) rfl (by exact hR.1) (by simp)]
    show some _ = some _
    congr 1
    rw [show (Value.agg R).cells = R from rfl]
    refine (isRow_of (f := f) (by rw [p1]; simp) fun k hk => ?_).eq hR fun _ _ => rfl
    have := p2 k (by simp; exact hk)
    rw [this, if_pos (by rw [Array.length_toList, hR.1]; omega)]
    simp only [Nat.add_zero, Nat.sub_zero, Array.getElem?_toList]
    exact hR.2.2 k hk
  have hlt : ¬ (1 * 16 > 2 ^ 24) := by omega
  have h0 : ¬ (1 * 16 = 0) := by omega
  unfold Instr.buildSlice
  simp only [Sem.run_bind, run_underlying Tryz.underlying29, Result.andThen_ok, hsz, hlt, h0, if_false, hz, Value.cells, Sem.run_pure, r1]
  rfl
theorem wpList_slice_one {ops : Array Oper} {rest : List Oper} {o : Oper} {a : Act} {w : World} {Q : Exit → Act → World → Prop} (hgd : o.guard = none) (x : Operand) (ho : o.op = .buildSlice 29 1 #[(0, x)]) {f : Nat → Int} {R : Array Value} (hx : a.eval x = .agg R) (hR : IsRow 16 f R)
    (h : wpList Tryz.prog ops Q rest (a.put o.dst (.slice (some ⟨w.heap.size, 0, none⟩) 1 1)) (w.alloc (.cells R 32))) : wpList Tryz.prog ops Q (o :: rest) a w := by
  refine wpList_plain hgd fun K hK => ?_
  unfold Oper.wp execOp
  have hv : (#[(0, x)] : Array (Nat × Operand)).map (fun (i, x) => (i, a.eval x)) = #[(0, .agg R)] := by simp [hx]
  simp only [ho, hv, run_slice_one hR, Sem.run_bind, Result.andThen_ok, Sem.run_pure]
  exact hK _ _ h
end Go.Proofs.YtfohinlldchdpaaGreatDoor.Row
end

section
/- 'append(frames, make([]api.Block, m)...)': so many blocks of zeros behind a slice of one's own; and such a slice made. For every package. -/
set_option maxRecDepth 100000
set_option linter.unusedVariables false
namespace Go.Proofs.YtfohinlldchdpaaGreatDoor.Row
open Go.RowKit

def zrL (m : Nat) : List Value := List.replicate (m * 16) (.int .i64 0)
theorem zr_cells (m : Nat) : Builtin.zeroCells (Array.replicate 16 (Value.int .i64 0)) m = (zrL m).toArray := by
  apply Array.ext
  · simp [Builtin.zeroCells, zrL]
  · intro k h1 h2
    simp only [Builtin.zeroCells, zrL, Array.getElem_map, Array.getElem_range, Array.size_replicate, List.getElem_toArray, List.getElem_replicate]
    rw [getElem!_pos _ _ (by rw [Array.size_replicate]; omega), Array.getElem_replicate]
/-- What stands first, then zeros. -/
def thenZ (n : Nat) (F : Nat → Nat → Int) (i j : Nat) : Int := if i < n then F i j else 0
theorem bkL_zeros (F : Nat → Nat → Int) (n m : Nat) : bkL F n ++ zrL m = bkL (thenZ n F) (n + m) := by
  apply List.ext_getElem?
  intro q
  by_cases h1 : q < n * 16
  · rw [List.getElem?_append_left (by rw [bkL_length]; exact h1)]
    obtain ⟨i, j, hj, rfl⟩ : ∃ i j, j < 16 ∧ q = i * 16 + j := ⟨q / 16, q % 16, by omega, by omega⟩
    rw [bkL_get F n i j (by omega) hj, bkL_get _ (n + m) i j (by omega) hj]
    unfold thenZ; rw [if_pos (by omega)]
  · rw [List.getElem?_append_right (by rw [bkL_length]; omega), bkL_length]
    by_cases h2 : q < (n + m) * 16
    · obtain ⟨i, j, hj, rfl⟩ : ∃ i j, j < 16 ∧ q = i * 16 + j := ⟨q / 16, q % 16, by omega, by omega⟩
      rw [bkL_get _ (n + m) i j (by omega) hj]
      unfold thenZ zrL; rw [if_neg (by omega), List.getElem?_replicate, if_pos (by omega)]
    · rw [List.getElem?_eq_none (by unfold zrL; rw [List.length_replicate]; omega), List.getElem?_eq_none (by rw [bkL_length]; omega)]
theorem zr_one (m : Nat) : ∀ u ∈ zrL m, u.oneCell' = true := by
  intro u hu
  unfold zrL at hu
  rw [(List.mem_replicate.1 hu).2]
  rfl
theorem run_append_zeros {w : World} {B g n c m : Nat} {F : Nat → Nat → Int} (ty : TypeId) (h : Bks w B (some ⟨g, 0, none⟩) n c F) (hm : 0 < m) (hn : n + m ≤ 1000000) (hB : B ≤ w.heap.size) :
    ∃ a' c' w', (Builtin.append_ #[29, 3] ty #[.slice (some ⟨g, 0, none⟩) n c, .int .i64 m]).run Tryz.prog w = .ok (.slice a' (n + m) c') w' ∧ Bks w' B a' (n + m) c' (thenZ n F) ∧ w.grownBy w' (some g) := by
  obtain ⟨i, hi, hz, hsz, hby⟩ := info_block
  obtain ⟨hl, ⟨e, _⟩ | ⟨g', cap, cur, e, h3, h4, h5, h6, h7, h8⟩⟩ := h
  · simp at e
  simp only [Value.slice.injEq, Option.some.injEq, Addr.mk.injEq] at e
  obtain ⟨⟨rfl, _⟩, _, rfl⟩ := e
  have hw : IntKind.i64.wrap (m : Int) = m := IntWalk.i64_in _ (by omega)
  have hm0 : ¬ (m : Int) < 0 := by omega
  have hm1 : ¬ (281474976710656 : Int) < m * 128 := by omega
  by_cases hroom : n + m ≤ c
  · have hst := run_storeCells_at Tryz.prog g (n * 16) 32 (zrL m) 0 cur w h4 (by unfold zrL; rw [List.length_replicate, h7]; omega) (zr_one m)
    simp only [Nat.add_zero] at hst
    refine ⟨some ⟨g, 0, none⟩, c, w.setRow g (cur.toList.take (n * 16) ++ zrL m ++ cur.toList.drop (n * 16 + (zrL m).length)).toArray, ?_, ?_, ?_⟩
    · simp [Builtin.append_, run_underlying Tryz.underlying29, run_underlying Tryz.underlying3, sizeOf, typeInfo, zeroValue, hi, hz, hsz, hby, asInt, asIntOf, hw, hm0, hm1, hroom, Value.cells, zr_cells, Addr.add_lit, hst]
      intro hh; omega
    · have hzl : (zrL m).length = m * 16 := by unfold zrL; rw [List.length_replicate]
      refine ⟨bkL_length _ _, .inr ⟨g, c, _, rfl, h3, setRow_heap w g cur _ 32 _ h4, hroom, h6, ?_, ?_⟩⟩
      · simp only [List.size_toArray, List.length_append, List.length_take, List.length_drop, Array.length_toList]
        omega
      · rw [h8, bkL_zeros]
        have : (n + m) * 16 = (bkL (thenZ n F) (n + m)).length := (bkL_length _ _).symm
        rw [this]
        exact List.take_left
    · exact ⟨rfl, rfl, rfl, by simp, fun k _ hk => setRow_other w g k _ (fun e => hk (by rw [e]))⟩
  · have hzl : (zrL m).length = m * 16 := by unfold zrL; rw [List.length_replicate]
    have holds : ∀ j u, (bkL F n)[j]? = some u → w.cell? ((⟨g, 0, none⟩ : Addr).add j) = some u := fun j u hj => by
      have hb : Bks w B (some ⟨g, 0, none⟩) n c F := ⟨hl, .inr ⟨g, c, cur, rfl, h3, h4, h5, h6, h7, h8⟩⟩
      exact World.ownsRow.cells hb (g := g) rfl j u hj
    have hfo := run_firstCells_some (P := Tryz.prog) w.drew i.size n ⟨g, 0, none⟩ n c (bkL F n) (by rw [hsz]; exact hl) (by simpa using holds)
    rw [hsz] at hfo
    have h63' : ¬ (9223372036854775807 : Int) < (n : Int) + m := by omega
    have h48' : ¬ (281474976710656 < Builtin.nextslicecap (n + m) c * 128) := by
      have := growslice_fits (need := n + m) (old := c) (bytes := 128) (by omega) (by omega)
      omega
    have hge := grownCap_ge w (n + m) c 32
    have hcm := grownCap_le_maxLen w (n + m) c 32 (by unfold maxLen; omega)
    refine ⟨some ⟨w.heap.size, 0, none⟩, grownCap w (n + m) c 32, w.drew.alloc (.cells ((bkL F n).toArray ++ (zrL m).toArray ++ Builtin.zeroCells (Array.replicate 16 (Value.int .i64 0)) (grownCap w (n + m) c 32 - (n + m))) 32), ?_, ?_, ?_⟩
    · simp [Builtin.append_, run_underlying Tryz.underlying29, run_underlying Tryz.underlying3, sizeOf, typeInfo, zeroValue, hi, hz, hsz, hby, asInt, asIntOf, hw, hm0, hm1, hroom, h63', h48', Question.forced, Value.cells, zr_cells, hfo, newRow, grownCap]
      intro hh; omega
    · refine ⟨bkL_length _ _, .inr ⟨w.heap.size, _, _, rfl, hB, heap_alloc_new w.drew _, hge, hcm, ?_, ?_⟩⟩
      · simp only [Array.size_append, List.size_toArray, size_zeroCells, Array.size_replicate, bkL_length, hzl, ← Nat.add_mul]
        congr 1
        omega
      · simp only [Array.toList_append, List.append_assoc]
        rw [← List.append_assoc, bkL_zeros]
        have : (n + m) * 16 = (bkL (thenZ n F) (n + m)).length := (bkL_length _ _).symm
        rw [this]
        exact List.take_left
    · exact ⟨rfl, rfl, rfl, by simp, fun k hk _ => heap_alloc_old w.drew _ hk⟩
/-- 'p = append(p, make(.., m)...)'. -/
theorem wpList_append_zeros {ops : Array Oper} {rest : List Oper} {o : Oper} {a : Act} {w : World} {Q : Exit → Act → World → Prop} (hgd : o.guard = none) (s x : Operand)
    (ho : o.op = .call { callee := .builtin .append, args := #[s, x], argTypes := #[29, 3] })
    (B : Nat) (F : Nat → Nat → Int) (g n c m : Nat) (hs : a.eval s = .slice (some ⟨g, 0, none⟩) n c) (hx : a.eval x = .int .i64 m) (hown : Bks w B (some ⟨g, 0, none⟩) n c F) (hm : 0 < m) (hn : n + m ≤ 1000000) (hB : B ≤ w.heap.size)
    (h : ∀ a' c' w', Bks w' B a' (n + m) c' (thenZ n F) → Below B w w' → wpList Tryz.prog ops Q rest (a.put o.dst (.slice a' (n + m) c')) w') : wpList Tryz.prog ops Q (o :: rest) a w := by
  refine wpList_plain hgd fun K hK => ?_
  obtain ⟨a', c', w', hr, h2, h3⟩ := run_append_zeros o.type hown hm hn hB
  unfold Oper.wp execOp
  simp only [ho, resolve, invoke, builtin, Sem.run_bind, Sem.run_pure, Result.andThen_ok, List.map_toArray, List.map_cons, List.map_nil, hs, hx, hr]
  exact hK _ _ (h a' c' w' h2 ((Below.refl B w).grown h3 hB fun k hk => (hown.block k (by simpa [Value.ownBlock] using hk)).1))
theorem made_blocks (n : Nat) : (madeCells (Array.replicate 16 (Value.int .i64 0)) (n * 16)).toList = bkL (fun _ _ => 0) n := by
  apply List.ext_getElem
  · rw [bkL_length]; simp [madeCells]
  · intro k h1 h2
    have h3 : k < n * 16 := by rw [bkL_length] at h2; exact h2
    simp only [madeCells, bkL, intsL, Array.toList_map, Array.toList_range, List.getElem_map, List.getElem_range, Array.size_replicate]
    rw [getElem!_pos _ _ (by rw [Array.size_replicate]; omega), Array.getElem_replicate]
/-- 'make([]api.Block, n)'. -/
theorem wpList_make_blocks {ops : Array Oper} {rest : List Oper} {o : Oper} {a : Act} {w : World} {Q : Exit → Act → World → Prop} (hg : o.guard = none) (l c : Operand) (hop : o.op = Op.makeSlice 29 l c)
    (B n : Nat) (hl : a.eval l = .int .i64 (n : Int)) (hc : a.eval c = .int .i64 (n : Int)) (hn : n ≤ 1000000) (hB : B ≤ w.heap.size)
    (hK : ∀ w', Bks w' B (some ⟨w.heap.size, 0, none⟩) n n (fun _ _ => 0) → Below w.heap.size w w' → wpList Tryz.prog ops Q rest (a.put o.dst (.slice (some ⟨w.heap.size, 0, none⟩) n n)) w') : wpList Tryz.prog ops Q (o :: rest) a w := by
  obtain ⟨i, hi, hz, hsz, hby⟩ := info_block
  refine wpList_make_full w hg l c 29 hop B 32 i _ 16 Tryz.underlying29 hi hz hsz .i64 .i64 n n n hl hc rfl rfl (by rw [hby]; omega) (by unfold maxLen; omega) hB fun w' h1 h2 => hK w' ?_ ?_
  · rw [show (Value.agg (Array.replicate 16 (Value.int .i64 0))).cells = Array.replicate 16 (Value.int .i64 0) from rfl, made_blocks] at h1
    exact h1
  · exact ⟨h2.os, h2.tape, h2.output, h2.size, fun k hk => h2.block k hk (by simp)⟩
end Go.Proofs.YtfohinlldchdpaaGreatDoor.Row
end

section
/- Slices of blocks in regions: an index, a block or a number loaded, whether the region draws its order or not. For every package. -/
set_option maxRecDepth 100000
set_option linter.unusedVariables false
namespace Go.Proofs.YtfohinlldchdpaaGreatDoor.Row
open Go.RowKit

theorem size_block (w : World) : (sizeOf 32).run Tryz.prog w = .ok 16 w := by
  obtain ⟨i, h1, _, h2, _⟩ := info_block
  simp [sizeOf, typeInfo, h1, h2]
theorem run_bx {g n c k : Nat} (hk : k < n) (w : World) :
    (Instr.indexAt 29 (.slice (some ⟨g, 0, none⟩) n c) (.int .i64 k)).run Tryz.prog w = .ok (.pointer (some ⟨g, k * 16, none⟩)) w := by
  have h : (0 : Int) ≤ (k : Int) ∧ (k : Int) < (n : Int) := by omega
  unfold Instr.indexAt
  simp only [Sem.run_bind, asIntOf, Sem.run_pure, Result.andThen_ok, run_underlying Tryz.underlying29, if_pos h, size_block]
  simp only [Addr.add, Int.toNat_natCast, Nat.zero_add]
  split <;> simp_all
theorem run_bj {t : TypeId} {g o k m : Nat} (hu : Tryz.prog.underlying t = some (.array m 3)) (hk : k < m) (w : World) :
    (Instr.indexAt t (.pointer (some ⟨g, o, none⟩)) (.int .i64 k)).run Tryz.prog w = .ok (.pointer (some ⟨g, o + k, none⟩)) w := by
  have h : (0 : Int) ≤ (k : Int) ∧ (k : Int) < (m : Int) := by omega
  unfold Instr.indexAt
  simp only [Sem.run_bind, asIntOf, Sem.run_pure, Result.andThen_ok, Instr.sureAddr, run_underlying hu, if_pos h, sizeOf_int]
  simp only [Addr.add, Nat.mul_one, Int.toNat_natCast]
  split <;> simp_all
/-- A row loaded of a part of a block that is known by its cells. -/
theorem wpList_load_range {ops : Array Oper} {rest : List Oper} {o : Oper} {a : Act} {w : World} {Q : Exit → Act → World → Prop} (hw : Region.wanted o (yielded ops a.tmps) = true) (ty : TypeId) (x : Operand) (ho : o.op = .load ty x)
    (g l : Nat) (hx : a.eval x = .pointer (some ⟨g, l, none⟩)) {U : Array Value} (hc : w.rangeAt g l U.toList) {d : TypeDesc} (hu : Tryz.prog.underlying ty = some d) (hd : d.isRow = true) (hi : (Tryz.prog.info? ty).map (·.size) = some U.size)
    (hK : wpList Tryz.prog ops Q rest (a.put o.dst (.agg U)) w) : wpList Tryz.prog ops Q (o :: rest) a w := by
  rw [wpList, if_pos hw]
  refine .inl (wp_load_mid ty x ho g l hx U.toList d hc hu hd (by rw [Array.length_toList]; exact hi) ?_)
  rw [Array.toArray_toList]
  exact hK

section
variable {ops : Array Oper} {S : World → Prop} {a : Act} {oi : Oper}
theorem y_bx {y z : Operand} {g n c k : Nat} {x : Int} (hw : Region.wanted oi (yielded ops a.tmps) = true) (ho : oi.op = .indexAddr 29 y z) (hy : a.eval y = .slice (some ⟨g, 0, none⟩) n c) (hz : a.eval z = .int .i64 x)
    (hx : x = k) (hk : k < n) : YieldsIf Tryz.prog ops S oi (.pointer (some ⟨g, k * 16, none⟩)) a :=
  y_run hw fun w => by
    subst hx
    unfold execOp
    simp only [ho, hy, hz, run_bx hk, Sem.run_bind, Result.andThen_ok, Sem.run_pure]
theorem y_bj {t : TypeId} {y z : Operand} {g o k m : Nat} {x : Int} (hw : Region.wanted oi (yielded ops a.tmps) = true) (ho : oi.op = .indexAddr t y z) (hu : Tryz.prog.underlying t = some (.array m 3)) (hy : a.eval y = .pointer (some ⟨g, o, none⟩)) (hz : a.eval z = .int .i64 x)
    (hx : x = k) (hk : k < m) : YieldsIf Tryz.prog ops S oi (.pointer (some ⟨g, o + k, none⟩)) a :=
  y_run hw fun w => by
    subst hx
    unfold execOp
    simp only [ho, hy, hz, run_bj hu hk, Sem.run_bind, Result.andThen_ok, Sem.run_pure]
theorem y_load_range {ty : TypeId} {x : Operand} (hw : Region.wanted oi (yielded ops a.tmps) = true) (ho : oi.op = .load ty x) {g l : Nat} (hx : a.eval x = .pointer (some ⟨g, l, none⟩)) {U : Array Value} (hc : ∀ w, S w → w.rangeAt g l U.toList)
    {d : TypeDesc} (hu : Tryz.prog.underlying ty = some d) (hd : d.isRow = true) (hi : (Tryz.prog.info? ty).map (·.size) = some U.size) : YieldsIf Tryz.prog ops S oi (.agg U) a := by
  have := yieldsIf_load_mid (P := Tryz.prog) (S := S) hw ty x ho g l hx U.toList d hc hu hd (by rw [Array.length_toList]; exact hi)
  rwa [Array.toArray_toList] at this
theorem y_geq {t t' : TypeId} {y z : Operand} {m n : Int} {b : Bool} (hw : Region.wanted oi (yielded ops a.tmps) = true) (ho : oi.op = .binOp .geq t y z t') (hy : a.eval y = .int .i64 m) (hz : a.eval z = .int .i64 n) (hb : decide (m ≥ n) = b) : YieldsIf Tryz.prog ops S oi (.bool b) a :=
  y_run hw fun w => by
    unfold execOp
    simp only [ho, hy, hz]
    simp [go_sem, ← hb]
end
end Go.Proofs.YtfohinlldchdpaaGreatDoor.Row
end
