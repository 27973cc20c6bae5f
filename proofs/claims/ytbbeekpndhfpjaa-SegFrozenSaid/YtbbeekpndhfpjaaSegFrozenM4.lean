/- Texts of the walk, one behind the other. -/
import Derived.Test.YtbbeekpndhfpjaaFr
import Derived.Test.YtbbeekpndhfpjaaRowP
import Derived.OwnWalk
import Derived.Maps.AppendAt
import Derived.Deep.OwnRows
import Derived.Test.YtbbeekpndhfpjaaRowMv

section
/- (For seats without []int too.) Slices whose elements are several cells wide (pages, structs): of the function's own, read, appended to, stored into. For every package; the types are handed in. -/
set_option maxRecDepth 100000
set_option linter.unusedVariables false
namespace Go.Proofs.Ytbbeekpndhfpjaa.Row
open Go.RowKit

/-- The cells of n elements, one behind the other. -/
def elL (F : Nat → Array Value) : Nat → List Value
  | 0 => []
  | n + 1 => elL F n ++ (F n).toList
/-- Each is m cells wide. -/
def Wid (m : Nat) (F : Nat → Array Value) (n : Nat) : Prop := ∀ i, i < n → (F i).size = m ∧ (F i).all (·.oneCell') = true
theorem Wid.less {m n k : Nat} {F : Nat → Array Value} (h : Wid m F n) (hk : k ≤ n) : Wid m F k := fun i hi => h i (by omega)
theorem elL_length {m : Nat} {F : Nat → Array Value} : ∀ {n}, Wid m F n → (elL F n).length = n * m
  | 0, _ => by simp [elL]
  | n + 1, h => by
    show (elL F n ++ (F n).toList).length = _
    rw [List.length_append, elL_length (h.less (Nat.le_succ n)), Array.length_toList, (h n (Nat.lt_succ_self n)).1, Nat.succ_mul]
theorem elL_get {m : Nat} {F : Nat → Array Value} : ∀ {n} {i j : Nat}, Wid m F n → i < n → j < m → (elL F n)[i * m + j]? = (F i)[j]?
  | 0, _, _, _, hi, _ => absurd hi (Nat.not_lt_zero _)
  | n + 1, i, j, h, hi, hj => by
    have hl := elL_length (h.less (Nat.le_succ n))
    show (elL F n ++ (F n).toList)[i * m + j]? = _
    by_cases e : i = n
    · subst e
      rw [List.getElem?_append_right (by rw [hl]; omega), hl, Nat.add_sub_cancel_left, Array.getElem?_toList]
    · have h1 : i * m + j < n * m := by
        have : (i + 1) * m ≤ n * m := Nat.mul_le_mul_right m (by omega)
        rw [Nat.succ_mul] at this
        omega
      rw [List.getElem?_append_left (by rw [hl]; exact h1), elL_get (h.less (Nat.le_succ n)) (by omega) hj]
/-- Where a cell of the list comes from. -/
theorem elL_at {m : Nat} {F : Nat → Array Value} {n q : Nat} {u : Value} (hm : 0 < m) (h : Wid m F n) (hq : (elL F n)[q]? = some u) : ∃ i j, i < n ∧ j < m ∧ q = i * m + j ∧ (F i)[j]? = some u := by
  have hl : q < n * m := by rw [← elL_length h]; exact (List.getElem?_eq_some_iff.1 hq).1
  have hi : q / m < n := (Nat.div_lt_iff_lt_mul hm).2 hl
  have hj : q % m < m := Nat.mod_lt q hm
  have e : q = q / m * m + q % m := by rw [Nat.mul_comm]; exact (Nat.div_add_mod q m).symm
  refine ⟨q / m, q % m, hi, hj, e, ?_⟩
  rw [e, elL_get h hi hj] at hq
  exact hq
theorem elL_ext {F G : Nat → Array Value} : ∀ {n}, (∀ i, i < n → F i = G i) → elL F n = elL G n
  | 0, _ => rfl
  | n + 1, h => by show elL F n ++ _ = elL G n ++ _; rw [elL_ext fun i hi => h i (by omega), h n (Nat.lt_succ_self n)]
/-- n of F's, then G's. -/
def catE (F : Nat → Array Value) (n : Nat) (G : Nat → Array Value) (i : Nat) : Array Value := if i < n then F i else G (i - n)
theorem catE_0 (F G : Nat → Array Value) : catE F 0 G = G := by funext i; unfold catE; rw [if_neg (by omega)]; rfl
theorem elL_cat (F G : Nat → Array Value) (n : Nat) : ∀ k, elL F n ++ elL G k = elL (catE F n G) (n + k)
  | 0 => by
    show elL F n ++ [] = _
    rw [List.append_nil]
    exact elL_ext fun i hi => by unfold catE; rw [if_pos (by omega)]
  | k + 1 => by
    show elL F n ++ (elL G k ++ (G k).toList) = elL (catE F n G) (n + k) ++ (catE F n G (n + k)).toList
    rw [← List.append_assoc, elL_cat F G n k]
    congr 2
    unfold catE; rw [if_neg (by omega), Nat.add_sub_cancel_left]
theorem Wid.cat {m n k : Nat} {F G : Nat → Array Value} (h : Wid m F n) (h' : Wid m G k) : Wid m (catE F n G) (n + k) := fun i hi => by
  unfold catE
  split
  · exact h i (by assumption)
  · exact h' _ (by omega)

/-- What the table says of the element's type. -/
structure ElT (ts te : TypeId) (m by_ : Nat) (Z : Array Value) : Prop where
  hu : Try.prog.underlying ts = some (.slice te)
  info : ∃ i z, Try.prog.info? te = some i ∧ i.zero = some z ∧ z.cells = Z ∧ i.size = m ∧ i.bytes = by_
  hz : Z.size = m
  hm : 0 < m
  hb : by_ ≤ 100000

/-- 'a, n, c' is a slice of its own, of n elements. -/
def Els (w : World) (B : Nat) (te : TypeId) (m : Nat) (a : Option Addr) (n c : Nat) (F : Nat → Array Value) : Prop := Wid m F n ∧ w.ownsRow B te m (.slice a n c) n (elL F n)
section
variable {w w' : World} {B n c m : Nat} {te ts : TypeId} {a : Option Addr} {F G : Nat → Array Value}
theorem Els.nil (w : World) (B : Nat) (te : TypeId) (m : Nat) (F : Nat → Array Value) : Els w B te m none 0 0 F := ⟨fun i hi => absurd hi (Nat.not_lt_zero i), by simp [elL], .inl ⟨rfl, rfl⟩⟩
theorem Els.below (h : Els w B te m a n c F) (hb : Below w.heap.size w w') : Els w' B te m a n c F := ⟨h.1, owns_below h.2 hb⟩
theorem Els.ext (h : Els w B te m a n c F) (e : ∀ i, i < n → F i = G i) : Els w B te m a n c G := ⟨fun i hi => by rw [← e i hi]; exact h.1 i hi, by rw [← elL_ext e]; exact h.2⟩
theorem Els.wide {B' : Nat} (h : Els w B te m a n c F) (hB : B' ≤ B) : Els w B' te m a n c F := by
  obtain ⟨h0, h1, h2 | ⟨g, cap, cur, e, h3, h4⟩⟩ := h
  · exact ⟨h0, h1, .inl h2⟩
  · exact ⟨h0, h1, .inr ⟨g, cap, cur, e, by omega, h4⟩⟩
/-- What leaves its block. -/
theorem Els.keep (h : Els w B te m a n c F) (hk : ∀ g, (Value.slice a n c).ownBlock = some g → w'.heap[g]? = w.heap[g]?) : Els w' B te m a n c F := by
  obtain ⟨h0, h1, h2 | ⟨g, cap, cur, e, h3, h4, h5⟩⟩ := h
  · exact ⟨h0, h1, .inl h2⟩
  · refine ⟨h0, h1, .inr ⟨g, cap, cur, e, h3, ?_, h5⟩⟩
    rw [hk g (by rw [e]; rfl)]; exact h4
theorem Els.setRow {b : Nat} (h : Els w B te m a n c F) (C : Array Value) (hb : ∀ g, (Value.slice a n c).ownBlock = some g → g ≠ b) : Els (w.setRow b C) B te m a n c F :=
  h.keep fun g hg => by
    have hne : b ≠ g := fun e => hb g hg e.symm
    unfold World.setRow
    simp [Array.getElem?_modify, hne]
theorem Els.setCell {p : Addr} (h : Els w B te m a n c F) (v : Value) (hb : ∀ g, (Value.slice a n c).ownBlock = some g → g ≠ p.block) : Els (w.setCell p v) B te m a n c F :=
  h.keep fun g hg => heap_setCell_other _ _ _ _ (hb g hg)
theorem Els.addr (h : Els w B te m a n c F) (hn : 0 < n) : ∃ g, a = some ⟨g, 0, none⟩ ∧ B ≤ g ∧ g < w.heap.size := by
  obtain ⟨_, _, h2 | ⟨g, cap, cur, e, h3, h4, _⟩⟩ := h
  · omega
  · simp only [Value.slice.injEq] at e
    exact ⟨g, e.1, h3, (Array.getElem?_eq_some_iff.1 h4).1⟩
theorem Els.cap (h : Els w B te m a n c F) : n ≤ c ∧ c ≤ maxLen := by
  obtain ⟨_, _, ⟨e, h0⟩ | ⟨g, cap, cur, e, _, _, h5, h6, _⟩⟩ := h
  · simp only [Value.slice.injEq] at e
    rw [h0, e.2.2]; exact ⟨by omega, by unfold maxLen; omega⟩
  · simp only [Value.slice.injEq] at e
    rw [e.2.2]; exact ⟨h5, h6⟩
theorem Els.block (h : Els w B te m a n c F) (k : Nat) (hk : (Value.slice a n c).ownBlock = some k) : B ≤ k ∧ k < w.heap.size := h.2.lt k hk
theorem Els.range {g i : Nat} (h : Els w B te m (some ⟨g, 0, none⟩) n c F) (hi : i < n) : w.rangeAt g (i * m) (F i).toList := fun j v hv => by
  have hj : j < m := by
    have := (List.getElem?_eq_some_iff.1 hv).1
    rw [Array.length_toList, (h.1 i hi).1] at this
    exact this
  rw [Array.getElem?_toList] at hv
  have := World.ownsRow.cells h.2 (g := g) rfl (i * m + j) v (by rw [elL_get h.1 hi hj]; exact hv)
  rw [Go.WideShapes.add_plain, Nat.zero_add] at this
  exact this

/-- 'a, n, c' is a slice of n elements, wherever it comes from. -/
def SlE (w : World) (m : Nat) (a : Option Addr) (n c : Nat) (F : Nat → Array Value) : Prop :=
  n ≤ c ∧ c ≤ maxLen ∧ Wid m F n ∧ (0 < n → ∃ b o, a = some ⟨b, o, none⟩ ∧ ∀ i, i < n → w.rangeAt b (o + i * m) (F i).toList)
theorem Els.slE (h : Els w B te m a n c F) : SlE w m a n c F :=
  ⟨h.cap.1, h.cap.2, h.1, fun hn => by
    obtain ⟨g, rfl, _⟩ := h.addr hn
    exact ⟨g, 0, rfl, fun i hi => by rw [Nat.zero_add]; exact h.range hi⟩⟩
theorem SlE.below (h : SlE w m a n c F) (hb : Below w.heap.size w w') : SlE w' m a n c F :=
  ⟨h.1, h.2.1, h.2.2.1, fun hn => by
    obtain ⟨b, o, e, hc⟩ := h.2.2.2 hn
    exact ⟨b, o, e, fun i hi j v hv => (Below.cell hb (block_lt_of_cell (hc i hi j v hv))).trans (hc i hi j v hv)⟩⟩

/-- The address of an element. -/
theorem run_ex {g o k by_ : Nat} {Z : Array Value} (T : ElT ts te m by_ Z) (hk : k < n) (w : World) :
    (Instr.indexAt ts (.slice (some ⟨g, o, none⟩) n c) (.int .i64 k)).run Try.prog w = .ok (.pointer (some ⟨g, o + k * m, none⟩)) w := by
  have h : (0 : Int) ≤ (k : Int) ∧ (k : Int) < (n : Int) := by omega
  have hz : (sizeOf te).run Try.prog w = .ok m w := by
    obtain ⟨i, _, h1, _, _, h2, _⟩ := T.info
    simp [sizeOf, typeInfo, h1, h2]
  unfold Instr.indexAt
  simp only [Sem.run_bind, asIntOf, Sem.run_pure, Result.andThen_ok, run_underlying T.hu, if_pos h, hz]
  simp only [Addr.add, Int.toNat_natCast]
  split <;> simp_all

/-- 'p = append(p, q...)', or one element more. -/
theorem wpList_append_els {ops : Array Oper} {rest : List Oper} {o : Oper} {ac : Act} {Q : Exit → Act → World → Prop} {by_ : Nat} {Z : Array Value} (T : ElT ts te m by_ Z) (hgd : o.guard = none) (s x : Operand)
    (ho : o.op = .call { callee := .builtin .append, args := #[s, x], argTypes := #[ts, ts] })
    (hs : ac.eval s = .slice a n c) (hown : Els w B te m a n c F) (b p k d : Nat) (hx : ac.eval x = .slice (some ⟨b, p, none⟩) k d) (hW : Wid m G k) (hr : ∀ i, i < k → w.rangeAt b (p + i * m) (G i).toList)
    (hn : n + k ≤ 1000000) (hB : B ≤ w.heap.size)
    (hK : ∀ a' c' w', Els w' B te m a' (n + k) c' (catE F n G) → Below B w w' → w.grownBy w' (Value.slice a n c).ownBlock → ((Value.slice a' (n + k) c').ownBlock = (Value.slice a n c).ownBlock ∨ (Value.slice a' (n + k) c').ownBlock = some w.heap.size) → wpList Try.prog ops Q rest (ac.put o.dst (.slice a' (n + k) c')) w') : wpList Try.prog ops Q (o :: rest) ac w := by
  obtain ⟨i, z, hi, hz, hzc, hsz, hby⟩ := T.info
  have hb : (n + k) * by_ ≤ 1000000 * 100000 := Nat.mul_le_mul hn T.hb
  refine wpList_append_own_at w hgd s x ts ho B te i z m by_ T.hu hi hz hsz hby (by rw [hzc]; exact T.hz) T.hm (.slice a n c) n (elL F n) hs hown.2 ⟨b, p, none⟩ k d (elL G k) hx (elL_length hW) ?_ ?_ (by unfold maxLen; omega) (by omega) hB ?_
  · intro q u hq
    obtain ⟨i, j, hi, hj, rfl, hv⟩ := elL_at T.hm hW hq
    rw [Go.WideShapes.add_plain, ← Nat.add_assoc]
    exact hr i hi j u (by rw [Array.getElem?_toList]; exact hv)
  · intro u hu
    obtain ⟨q, hq⟩ := List.getElem?_of_mem hu
    obtain ⟨i, j, hi, hj, rfl, hv⟩ := elL_at T.hm hW hq
    exact Array.all_eq_true_iff_forall_mem.1 (hW i hi).2 u (Array.mem_of_getElem? hv)
  · intro v' w' hown' hg _ hat
    rw [elL_cat] at hown'
    have hb' : Below B w w' := (Below.refl B w).grown hg hB fun k hk => (hown.block k hk).1
    obtain ⟨_, ⟨rfl, h0⟩ | ⟨g, c', cur, rfl, _⟩⟩ := id hown'
    · have e := hK none 0 w'
      rw [h0] at e hown'
      rw [h0] at *
      exact e ⟨fun i hi => absurd hi (Nat.not_lt_zero i), hown'⟩ hb' hg hat
    · exact hK _ c' w' ⟨hown.1.cat hW, hown'⟩ hb' hg hat

/-- One element stored. -/
theorem Els.stored {g k : Nat} (h : Els w B te m (some ⟨g, 0, none⟩) n c F) (hk : k < n) {P : Array Value} (hP : P.size = m ∧ P.all (·.oneCell') = true) :
    ∃ C, w.setCells g (k * m) P.toList = w.setRow g C ∧ Els (w.setRow g C) B te m (some ⟨g, 0, none⟩) n c (fun i => if i = k then P else F i) := by
  obtain ⟨h0, h1, ⟨e, _⟩ | ⟨g', cap, cur, e, h3, h4, h5, h6, h7, h8⟩⟩ := h
  · simp at e
  simp only [Value.slice.injEq, Option.some.injEq, Addr.mk.injEq] at e
  obtain ⟨⟨rfl, _⟩, _, rfl⟩ := e
  obtain ⟨C, e1, e2, e3⟩ := setCells_row P.toList (k * m) cur w h4
  have hW : Wid m (fun i => if i = k then P else F i) n := fun i hi => by
    by_cases e : i = k
    · simp only [if_pos e]; exact hP
    · simp only [if_neg e]; exact h0 i hi
  have hkm : (k + 1) * m ≤ n * m := Nat.mul_le_mul_right m (by omega)
  have hnc : n * m ≤ c * m := Nat.mul_le_mul_right m h5
  rw [Nat.succ_mul] at hkm
  refine ⟨C, e1, hW, elL_length hW, .inr ⟨g, c, C, rfl, h3, setRow_heap _ _ _ _ _ _ h4, h5, h6, by rw [e2, h7], ?_⟩⟩
  apply List.ext_getElem?
  intro q
  by_cases hq : q < n * m
  · have hm : 0 < m := by
      rcases Nat.eq_zero_or_pos m with h | h
      · rw [h] at hq; omega
      · exact h
    have hqd : q = q / m * m + q % m := by rw [Nat.mul_comm]; exact (Nat.div_add_mod q m).symm
    have hi : q / m < n := (Nat.div_lt_iff_lt_mul hm).2 hq
    have hj : q % m < m := Nat.mod_lt q hm
    generalize q / m = i at hqd hi
    generalize q % m = j at hqd hj
    subst hqd
    rw [List.getElem?_take_of_lt hq, Array.getElem?_toList, e3 _ (by rw [h7]; omega), elL_get hW hi hj, Array.length_toList, hP.1]
    by_cases e : i = k
    · subst e
      rw [if_pos ⟨by omega, by omega⟩, if_pos rfl, Nat.add_sub_cancel_left, Array.getElem?_toList]
    · have hne : ¬ (k * m ≤ i * m + j ∧ i * m + j < k * m + m) := by
        rintro ⟨a1, a2⟩
        rcases Nat.lt_or_gt_of_ne e with l | l
        · have : (i + 1) * m ≤ k * m := Nat.mul_le_mul_right m (by omega)
          rw [Nat.succ_mul] at this
          omega
        · have : (k + 1) * m ≤ i * m := Nat.mul_le_mul_right m (by omega)
          rw [Nat.succ_mul] at this
          omega
      rw [if_neg hne, if_neg e, ← elL_get h0 hi hj, ← h8, List.getElem?_take_of_lt hq, Array.getElem?_toList]
  · rw [List.getElem?_eq_none (by rw [List.length_take]; omega), List.getElem?_eq_none (by rw [elL_length hW]; omega)]

/-- An empty slice written out. -/
theorem Els.empty {g : Nat} (F : Nat → Array Value) (hB : B ≤ g) (h : At w g #[] te) : Els w B te m (some ⟨g, 0, none⟩) 0 0 F :=
  ⟨fun i hi => absurd hi (Nat.not_lt_zero i), by simp [elL], .inr ⟨g, 0, #[], rfl, hB, h, Nat.le_refl _, Nat.zero_le _, by simp, by simp [elL]⟩⟩
theorem made_els {Z : Array Value} (hz : Z.size = m) (h1 : Z.all (·.oneCell') = true) (n : Nat) : (madeCells Z (n * m)).toList = elL (fun _ => Z) n := by
  have hW : Wid m (fun _ => Z) n := fun _ _ => ⟨hz, h1⟩
  apply List.ext_getElem?
  intro k
  by_cases hk : k < n * m
  · have hm : 0 < m := by
      rcases Nat.eq_zero_or_pos m with h | h
      · rw [h] at hk; omega
      · exact h
    have hqd : k = k / m * m + k % m := by rw [Nat.mul_comm]; exact (Nat.div_add_mod k m).symm
    have hj : k % m < m := Nat.mod_lt k hm
    have e := elL_get (i := k / m) (j := k % m) hW ((Nat.div_lt_iff_lt_mul hm).2 hk) hj
    rw [← hqd] at e
    rw [e]
    simp only [madeCells, Array.toList_map, Array.toList_range, List.getElem?_map, List.getElem?_range hk, Option.map_some, hz]
    rw [getElem!_pos _ _ (by rw [hz]; exact hj), Array.getElem?_eq_getElem]
  · rw [List.getElem?_eq_none (by simp [madeCells]; omega), List.getElem?_eq_none (by rw [elL_length hW]; omega)]
/-- 'make([]T, n)'. -/
theorem wpList_make_els {ops : Array Oper} {rest : List Oper} {o : Oper} {ac : Act} {Q : Exit → Act → World → Prop} {by_ : Nat} {Z : Array Value} (T : ElT ts te m by_ Z) (h1 : Z.all (·.oneCell') = true) (hg : o.guard = none) (l x : Operand) (hop : o.op = Op.makeSlice ts l x)
    (n : Nat) (hl : ac.eval l = .int .i64 (n : Int)) (hc : ac.eval x = .int .i64 (n : Int)) (hn : n ≤ 1000000) (hB : B ≤ w.heap.size)
    (hK : ∀ w', Els w' B te m (some ⟨w.heap.size, 0, none⟩) n n (fun _ => Z) → Below w.heap.size w w' → wpList Try.prog ops Q rest (ac.put o.dst (.slice (some ⟨w.heap.size, 0, none⟩) n n)) w') : wpList Try.prog ops Q (o :: rest) ac w := by
  obtain ⟨i, z, hi, hz, hzc, hsz, hby⟩ := T.info
  have hb : n * by_ ≤ 1000000 * 100000 := Nat.mul_le_mul hn T.hb
  refine wpList_make_full w hg l x ts hop B te i _ m T.hu hi hz hsz .i64 .i64 n n n hl hc rfl rfl (by rw [hby, Nat.mul_comm]; omega) (by unfold maxLen; omega) hB fun w' h1' h2 => hK w' ⟨fun _ _ => ⟨T.hz, h1⟩, ?_⟩ ?_
  · rw [hzc, made_els T.hz h1] at h1'
    exact h1'
  · exact ⟨h2.os, h2.tape, h2.output, h2.size, fun k hk => h2.block k hk (by simp)⟩
/-- A slice of one element written out. -/
theorem run_slice_el {by_ : Nat} {Z R : Array Value} {v : Value} (hv : v.cells = R) (T : ElT ts te m by_ Z) (hR : R.size = m) (hm : m ≤ 1000000) (w : World) :
    (Instr.buildSlice ts 1 #[(0, v)]).run Try.prog w = .ok (.slice (some ⟨w.heap.size, 0, none⟩) 1 1) (w.alloc (.cells R te)) := by
  obtain ⟨i, z, hi, hz, hzc, hsz, hby⟩ := T.info
  have hz0 : ∀ w, (zeroValue te).run Try.prog w = .ok z w := fun w => by simp [zeroValue, typeInfo, hi, hz]
  have hs : ∀ w, (sizeOf te).run Try.prog w = .ok m w := fun w => by simp [sizeOf, typeInfo, hi, hsz]
  have r1 : Instr.fill (fun i => some (i * m, m)) ((Array.range (1 * m)).map (Z[· % Z.size]!)) [(0, v)] = some R := by
    obtain ⟨p1, p2⟩ := fold_lay R.toList 0 0 ((Array.range (1 * m)).map (Z[· % Z.size]!))
    rw [fill_step (l := 0 * m) (n := m) rfl (by rw [hv]; exact hR) (by simp)]
    show some _ = some _
    congr 1
    rw [hv]
    apply Array.ext_getElem?
    intro k
    simp only [Nat.zero_mul]
    by_cases hk : k < m
    · have := p2 k (by simp; omega)
      rw [this, if_pos (by rw [Array.length_toList, hR]; omega)]
      simp only [Nat.add_zero, Nat.sub_zero, Array.getElem?_toList]
    · rw [Array.getElem?_eq_none (by rw [p1]; simp; omega), Array.getElem?_eq_none (by omega)]
  have hlt : ¬ (1 * m > 2 ^ 24) := by omega
  have h0 : ¬ (1 * m = 0) := by have := T.hm; omega
  unfold Instr.buildSlice
  simp only [Sem.run_bind, run_underlying T.hu, Result.andThen_ok, hs, hlt, h0, if_false, hz0, hzc, Sem.run_pure, r1]
  rfl
theorem wpList_slice_el {ops : Array Oper} {rest : List Oper} {o : Oper} {ac : Act} {Q : Exit → Act → World → Prop} {by_ : Nat} {Z R : Array Value} (T : ElT ts te m by_ Z) (hR : R.size = m) (hm : m ≤ 1000000) (hgd : o.guard = none) (x : Operand) (ho : o.op = .buildSlice ts 1 #[(0, x)]) {v : Value} (hx : ac.eval x = v) (hvc : v.cells = R)
    (h : wpList Try.prog ops Q rest (ac.put o.dst (.slice (some ⟨w.heap.size, 0, none⟩) 1 1)) (w.alloc (.cells R te))) : wpList Try.prog ops Q (o :: rest) ac w := by
  refine wpList_plain hgd fun K hK => ?_
  unfold Oper.wp execOp
  have hv : (#[(0, x)] : Array (Nat × Operand)).map (fun (i, x) => (i, ac.eval x)) = #[(0, v)] := by simp [hx]
  simp only [ho, hv, run_slice_el hvc T hR hm, Sem.run_bind, Result.andThen_ok, Sem.run_pure]
  exact hK _ _ h
end
end Go.Proofs.Ytbbeekpndhfpjaa.Row
end

section
/- One element laid by itself (carved out of ElB). For every package. -/
set_option maxRecDepth 100000
set_option linter.unusedVariables false
namespace Go.Proofs.Ytbbeekpndhfpjaa.Row
open Go.RowKit

/-- A row that stands, read as one element of a slice. -/
theorem At.one {w : World} {b m : Nat} {R : Array Value} {t : TypeId} (h : At w b R t) : ∀ i, i < 1 → w.rangeAt b (0 + i * m) ((fun _ : Nat => R) i).toList := fun i hi j v hv => by
  obtain rfl : i = 0 := by omega
  rw [Array.getElem?_toList] at hv
  rw [show 0 + 0 * m + j = j by omega, cell_of_row _ _ j _ _ _ h]
  exact hv
theorem wid_one {m : Nat} {R : Array Value} (h : R.size = m) (h1 : R.all (·.oneCell') = true) : Wid m (fun _ => R) 1 := fun _ _ => ⟨h, h1⟩
section
variable {ops : Array Oper} {S : World → Prop} {a : Act} {oi : Oper}
/-- The address of an element of a slice. -/
theorem y_ex {ts te : TypeId} {y z : Operand} {g o n c m k q by_ : Nat} {Z : Array Value} {x : Int} (T : ElT ts te m by_ Z) (hw : Region.wanted oi (yielded ops a.tmps) = true) (ho : oi.op = .indexAddr ts y z) (hy : a.eval y = .slice (some ⟨g, o, none⟩) n c) (hz : a.eval z = .int .i64 x)
    (hx : x = k) (hk : k < n) (hq : o + k * m = q) : YieldsIf Try.prog ops S oi (.pointer (some ⟨g, q, none⟩)) a :=
  y_run hw fun w => by
    subst hx hq
    unfold execOp
    simp only [ho, hy, hz, run_ex T hk, Sem.run_bind, Result.andThen_ok, Sem.run_pure]
end
end Go.Proofs.Ytbbeekpndhfpjaa.Row
end
