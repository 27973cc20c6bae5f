/- Lists of rows: how they lie, a row that is made of a number and a row, a row more; the document's vectors, in order. -/
import Derived.Test.YtkpbmhppibfpoaaVeS
import Derived.Test.YtkpbmhppibfpoaaOwn
set_option maxRecDepth 100000
set_option linter.unusedVariables false
namespace Go.Proofs.Ytkpbmhppibfpoaa.Ve
open Go.RowKit Go.Proofs.Ytkpbmhppibfpoaa.Row Go.Maps Go.WideMaps

/-- Numbers as values. -/
def vals (r : List Int) : List Value := r.map (Value.int .i64)
/-- v is a slice of its own, of r's numbers. -/
def RowV (w : World) (B : Nat) (v : Value) (r : List Int) : Prop := ∃ g c cur, v = .slice (some ⟨g, 0, none⟩) r.length c ∧ B ≤ g ∧ At w g cur 3 ∧ r.length ≤ c ∧ c ≤ maxLen ∧ cur.size = c ∧ cur.toList.take r.length = vals r

theorem RowV.kept {w w' : World} {B : Nat} {v : Value} {r : List Int} (h : RowV w B v r) (hk : ∀ g, v.ownBlock = some g → w'.heap[g]? = w.heap[g]?) : RowV w' B v r := by
  obtain ⟨g, c, cur, rfl, h1, h2, h3⟩ := h
  exact ⟨g, c, cur, rfl, h1, (hk g rfl).trans h2, h3⟩
theorem RowV.lt {w : World} {B : Nat} {v : Value} {r : List Int} (h : RowV w B v r) : ∀ g, v.ownBlock = some g → g < w.heap.size := by
  obtain ⟨g, c, cur, rfl, h1, h2, h3⟩ := h
  intro g' e
  have e : g = g' := by injection e
  subst e
  exact h2.lt
theorem RowV.below {w w' : World} {B : Nat} {v : Value} {r : List Int} (h : RowV w B v r) (hb : Below w.heap.size w w') : RowV w' B v r := h.kept fun g hg => hb.block g (h.lt g hg)
theorem RowV.mono {w : World} {B C : Nat} {v : Value} {r : List Int} (h : RowV w B v r) (hB : C ≤ B) : RowV w C v r := by
  obtain ⟨g, c, cur, e, h1, h3⟩ := h
  exact ⟨g, c, cur, e, Nat.le_trans hB h1, h3⟩
theorem RowV.grown {w w' : World} {B : Nat} {row : Option Nat} {v : Value} {r : List Int} (h : RowV w B v r) (hg : w.grownBy w' row) (hr : ∀ g, row = some g → ∃ cur, At w g cur 22) : RowV w' B v r := by
  refine h.kept fun g hv => hg.block g (h.lt g hv) fun e => ?_
  obtain ⟨cur, hA⟩ := hr g e.symm
  obtain ⟨g', c, cur', rfl, h1, h2, h3⟩ := h
  obtain rfl : g' = g := by injection hv
  unfold At at hA h2
  rw [hA] at h2
  injection h2 with h2
  injection h2 with _ h2
  exact absurd h2 (by decide)
theorem RowV.owns {w : World} {B : Nat} {v : Value} {r : List Int} (h : RowV w B v r) : w.ownsRow B 3 1 v r.length (vals r) := by
  obtain ⟨g, c, cur, rfl, h1, h2, h3, h4, h5, h6⟩ := h
  exact ⟨by unfold vals; simp, .inr ⟨g, c, cur, rfl, h1, h2, h3, h4, by omega, by rw [Nat.mul_one]; exact h6⟩⟩
theorem RowV.of_owns {w : World} {B n : Nat} {v : Value} {r : List Int} (h : w.ownsRow B 3 1 v n (vals r)) (hn : n = r.length) (hv : v ≠ .slice none 0 0) : RowV w B v r := by
  subst hn
  obtain ⟨_, ⟨e, _⟩ | ⟨g, c, cur, rfl, h1, h2, h3, h4, h5, h6⟩⟩ := h
  · exact absurd e hv
  · exact ⟨g, c, cur, rfl, h1, h2, h3, h4, by omega, by rw [Nat.mul_one] at h6; exact h6⟩
theorem RowV.shape {w : World} {B : Nat} {v : Value} {r : List Int} (h : RowV w B v r) : ∃ g c, v = .slice (some ⟨g, 0, none⟩) r.length c := by
  obtain ⟨g, c, cur, rfl, _⟩ := h
  exact ⟨g, c, rfl⟩
theorem vals_get {r : List Int} {i : Nat} (h : i < r.length) : (vals r)[i]? = some (.int .i64 (r.getD i 0)) := by
  unfold vals
  simp [h]
theorem RowV.sl {w : World} {B g c : Nat} {r : List Int} (h : RowV w B (.slice (some ⟨g, 0, none⟩) r.length c) r) : Sl .i64 w (some ⟨g, 0, none⟩) r.length c (fun i => r.getD i 0) := by
  obtain ⟨g', c', cur, e, h1, h2, h3, h4, h5, h6⟩ := h
  injection e with e1 _ e2
  injection e1 with e1
  injection e1 with e1
  subst e1 e2
  refine ⟨h3, h4, fun _ => ⟨g, 0, rfl, fun i hi => ?_⟩⟩
  rw [Nat.zero_add, h2.cell]
  have := vals_get hi
  rw [← h6, List.getElem?_take_of_lt hi, Array.getElem?_toList] at this
  exact this

/-- A list of rows: a slice of its own, each of its values a row. -/
def AllV (w : World) (B : Nat) (a : Option Addr) (c : Nat) (L : List (List Int)) (xs : List Value) : Prop :=
  w.ownsRow B 22 1 (.slice a L.length c) L.length xs ∧ ∀ (i : Nat) x r, xs[i]? = some x → L[i]? = some r → RowV w B x r

theorem owns_row {w : World} {B n : Nat} {v : Value} {e : TypeId} {xs : List Value} (h : w.ownsRow B e 1 v n xs) : ∀ g, v.ownBlock = some g → ∃ cur, At w g cur e := by
  obtain ⟨_, ⟨rfl, _⟩ | ⟨g, c, cur, rfl, _, h2, _⟩⟩ := h
  · intro g e; cases e
  · intro g' e
    obtain rfl : g = g' := by injection e
    exact ⟨cur, h2⟩
theorem owns_kept {w w' : World} {B n : Nat} {v : Value} {e : TypeId} {xs : List Value} (h : w.ownsRow B e 1 v n xs) (hk : ∀ g, v.ownBlock = some g → w'.heap[g]? = w.heap[g]?) : w'.ownsRow B e 1 v n xs := by
  obtain ⟨h0, ⟨rfl, h1⟩ | ⟨g, c, cur, rfl, h1, h2, h3⟩⟩ := h
  · exact ⟨h0, .inl ⟨rfl, h1⟩⟩
  · exact ⟨h0, .inr ⟨g, c, cur, rfl, h1, (hk g rfl).trans h2, h3⟩⟩
theorem AllV.lt {w : World} {B c : Nat} {a : Option Addr} {L : List (List Int)} {xs : List Value} (h : AllV w B a c L xs) : ∀ g, (Value.slice a L.length c).ownBlock = some g → g < w.heap.size := fun g hg => by
  obtain ⟨cur, hA⟩ := owns_row h.1 g hg
  exact hA.lt
theorem AllV.below {w w' : World} {B c : Nat} {a : Option Addr} {L : List (List Int)} {xs : List Value} (h : AllV w B a c L xs) (hb : Below w.heap.size w w') : AllV w' B a c L xs :=
  ⟨owns_kept h.1 fun g hg => hb.block g (h.lt g hg), fun i x r hx hr => (h.2 i x r hx hr).below hb⟩
theorem AllV.mono {w : World} {B C c : Nat} {a : Option Addr} {L : List (List Int)} {xs : List Value} (h : AllV w B a c L xs) (hB : C ≤ B) : AllV w C a c L xs := by
  refine ⟨?_, fun i x r hx hr => (h.2 i x r hx hr).mono hB⟩
  obtain ⟨h0, ⟨e, h1⟩ | ⟨g, c', cur, e, h1, h2⟩⟩ := h.1
  · exact ⟨h0, .inl ⟨e, h1⟩⟩
  · exact ⟨h0, .inr ⟨g, c', cur, e, Nat.le_trans hB h1, h2⟩⟩
theorem AllV.grown {w w' : World} {B c : Nat} {a : Option Addr} {row : Option Nat} {L : List (List Int)} {xs : List Value} (h : AllV w B a c L xs) (hg : w.grownBy w' row) (hr : ∀ g, row = some g → ∃ cur, At w g cur 22) (hd : ∀ g, row = some g → (Value.slice a L.length c).ownBlock ≠ some g) : AllV w' B a c L xs :=
  ⟨owns_kept h.1 fun g e => hg.block g (h.lt g e) fun e2 => hd g e2.symm e, fun i x r hx hrr => (h.2 i x r hx hrr).grown hg hr⟩
theorem allV_nil (w : World) (B : Nat) : AllV w B none 0 [] [] := ⟨⟨rfl, .inl ⟨rfl, rfl⟩⟩, fun i x r hx => by simp at hx⟩
theorem AllV.len {w : World} {B c : Nat} {a : Option Addr} {L : List (List Int)} {xs : List Value} (h : AllV w B a c L xs) : xs.length = L.length := by rw [h.1.1, Nat.mul_one]
/-- The row at a place, and the cell that holds its slice. -/
theorem AllV.at {w : World} {B c : Nat} {a : Option Addr} {L : List (List Int)} {xs : List Value} (h : AllV w B a c L xs) {i : Nat} (hi : i < L.length) :
    ∃ g y r, a = some ⟨g, 0, none⟩ ∧ L[i]? = some r ∧ w.cell? ⟨g, i, none⟩ = some y ∧ RowV w B y r := by
  obtain ⟨h0, ⟨_, h1⟩ | ⟨g, c', cur, e, h1, h2, h3, h4, h5, h6⟩⟩ := h.1
  · omega
  · injection e with e
    have hx : i < xs.length := by omega
    obtain ⟨y, hy⟩ : ∃ y, xs[i]? = some y := ⟨_, List.getElem?_eq_getElem hx⟩
    obtain ⟨r, hr⟩ : ∃ r, L[i]? = some r := ⟨_, List.getElem?_eq_getElem hi⟩
    refine ⟨g, y, r, e, hr, ?_, h.2 i y r hy hr⟩
    have hA : At w g cur 22 := h2
    rw [hA.cell]
    rw [← h6, Nat.mul_one, List.getElem?_take_of_lt hi, Array.getElem?_toList] at hy
    exact hy

theorem info_row : ∃ i, Try.prog.info? 22 = some i ∧ i.zero = some (.slice none 0 0) ∧ i.size = 1 ∧ i.bytes = 24 := by
  have : (Try.prog.info? 22).map (fun i => (i.zero, i.size, i.bytes)) = some (some (.slice none 0 0), 1, 24) := by kernel_rfl
  obtain ⟨i, hi, hzz⟩ := Option.map_eq_some_iff.1 this
  simp only [Prod.mk.injEq] at hzz
  exact ⟨i, hi, hzz.1, hzz.2.1, hzz.2.2⟩

section
variable {ops : Array Oper} {rest : List Oper} {o : Oper} {a : Act} {w : World} {Q : Exit → Act → World → Prop}

/-- 'append([]int{x}, r...)'. -/
theorem wpList_append_tail (hgd : o.guard = none) (s x : Operand) (ho : o.op = .call { callee := .builtin .append, args := #[s, x], argTypes := #[22, 22] })
    (B b : Nat) (x0 : Int) (hs : a.eval s = .slice (some ⟨b, 0, none⟩) 1 1) (hA : At w b #[.int .i64 x0] 3) (hB : B ≤ b) (C : Nat) (y : Value) (r : List Int) (hx : a.eval x = y) (hy : RowV w C y r) (hl : r.length ≤ 100) (n : Nat) (hn : r.length + 1 = n)
    (h : ∀ g c w', RowV w' B (.slice (some ⟨g, 0, none⟩) n c) (x0 :: r) → w.grownBy w' (some b) → wpList Try.prog ops Q rest (a.put o.dst (.slice (some ⟨g, 0, none⟩) n c)) w') : wpList Try.prog ops Q (o :: rest) a w := by
  obtain ⟨i, hi, hz, hsz, hby⟩ := info_int3
  obtain ⟨g, c, cur, rfl, h1, h2, h3, h4, h5, h6⟩ := hy
  refine wpList_append_own_at w hgd s x 22 ho B 3 i (.int .i64 0) 1 8 Try.underlying22 hi hz hsz hby rfl (by decide) (.slice (some ⟨b, 0, none⟩) 1 1) 1 (vals [x0]) hs ?_ ⟨g, 0, none⟩ r.length c (vals r) hx (by unfold vals; simp) ?_ ?_ (by unfold maxLen; omega) (by omega) (Nat.le_trans hB (Nat.le_of_lt hA.lt)) ?_
  · exact ⟨rfl, .inr ⟨b, 1, _, rfl, hB, hA, Nat.le_refl _, by unfold maxLen; omega, rfl, rfl⟩⟩
  · intro j u hj
    have hjl : j < r.length := by
      have := (List.getElem?_eq_some_iff.1 hj).1
      unfold vals at this
      simpa using this
    rw [← h6, List.getElem?_take_of_lt hjl, Array.getElem?_toList] at hj
    have hc := h2.cell j
    rw [hj] at hc
    unfold Addr.add
    by_cases e0 : j = 0
    · subst e0; simpa using hc
    · simpa [e0] using hc
  · intro u hu
    unfold vals at hu
    obtain ⟨z, _, rfl⟩ := List.mem_map.1 hu
    rfl
  · intro v' w' hown hg hnil hat
    have hv : v' ≠ .slice none 0 0 := fun e => by have := (hnil.1 e).1; simp at this
    have hR : RowV w' B v' (x0 :: r) := .of_owns (r := x0 :: r) hown (by simp; omega) hv
    obtain ⟨g', c', rfl⟩ := hR.shape
    subst hn
    exact h g' c' w' hR hg

/-- 'out = append(out, row)'. -/
theorem wpList_append_vec (hgd : o.guard = none) (s x : Operand) (ho : o.op = .call { callee := .builtin .append, args := #[s, x], argTypes := #[35, 35] })
    (B : Nat) (ao : Option Addr) (n c : Nat) (L : List (List Int)) (xs : List Value) (hn : L.length = n) (hs : a.eval s = .slice ao n c) (hown : AllV w B ao c L xs) (b : Nat) (v : Value) (r : List Int) (hx : a.eval x = .slice (some ⟨b, 0, none⟩) 1 1) (hc : w.cell? ⟨b, 0, none⟩ = some v) (hv : RowV w B v r)
    (hl : L.length ≤ 6975757441) (hB : B ≤ w.heap.size)
    (h : ∀ g c' w', AllV w' B (some ⟨g, 0, none⟩) c' (L ++ [r]) (xs ++ [v]) → w.grownBy w' (Value.slice ao n c).ownBlock → (ao = some ⟨g, 0, none⟩ ∨ g = w.heap.size) → wpList Try.prog ops Q rest (a.put o.dst (.slice (some ⟨g, 0, none⟩) (n + 1) c')) w') : wpList Try.prog ops Q (o :: rest) a w := by
  subst hn
  obtain ⟨i, hi, hz, hsz, hby⟩ := info_row
  refine wpList_append_own_at w hgd s x 35 ho B 22 i (.slice none 0 0) 1 24 Try.underlying35 hi hz hsz hby rfl (by decide) (.slice ao L.length c) L.length xs hs hown.1 ⟨b, 0, none⟩ 1 1 [v] hx rfl ?_ ?_ (by unfold maxLen; omega) (by omega) hB ?_
  · intro j u hj
    match j, hj with
    | 0, hj => simp at hj; subst hj; simpa [Addr.add] using hc
  · intro u hu
    simp only [List.mem_singleton] at hu
    subst hu
    obtain ⟨g, c, rfl⟩ := hv.shape
    rfl
  · intro v' w' hown' hg hnil hat
    have hv' : v' ≠ .slice none 0 0 := fun e => by have := (hnil.1 e).2; omega
    obtain ⟨h0, ⟨e, _⟩ | ⟨g, c', cur, rfl, h1, h2⟩⟩ := hown'
    · exact absurd e hv'
    refine h g c' w' ⟨?_, ?_⟩ hg ?_
    · rw [List.length_append, List.length_singleton]
      exact ⟨h0, .inr ⟨g, c', cur, rfl, h1, h2⟩⟩
    · intro j y q hy hq
      by_cases hj : j < L.length
      · rw [List.getElem?_append_left (by rw [hown.len]; exact hj)] at hy
        rw [List.getElem?_append_left hj] at hq
        exact (hown.2 j y q hy hq).grown hg (owns_row hown.1)
      · have hjl : j < (L ++ [r]).length := (List.getElem?_eq_some_iff.1 hq).1
        rw [List.length_append, List.length_singleton] at hjl
        obtain rfl : j = L.length := by omega
        rw [List.getElem?_append_right (by rw [hown.len]; exact Nat.le_refl _), hown.len, Nat.sub_self] at hy
        rw [List.getElem?_append_right (Nat.le_refl _), Nat.sub_self] at hq
        obtain rfl : v = y := by simpa using hy
        obtain rfl : r = q := by simpa using hq
        exact hv.grown hg (owns_row hown.1)
    · rcases hat with e | e
      · cases ao with
        | none => cases e
        | some p =>
          have hp := hown.1.2
          rcases hp with ⟨e', _⟩ | ⟨g0, c0, cur0, e', _⟩
          · cases e'
          · injection e' with e'
            rw [e'] at e ⊢
            simp only [Value.ownBlock, Option.some.injEq] at e
            exact .inl (by rw [e])
      · simp only [Value.ownBlock, Option.some.injEq] at e
        exact .inr e
end

/-- All vectors of n numbers with k pulses, in order. -/
def allL : Nat → Nat → List (List Int)
  | 0, k => if k = 0 then [[]] else []
  | n + 1, k => (List.range (2 * k + 1)).flatMap fun (j : Nat) => (allL n (k - ((j : Int) - k).natAbs)).map fun r => ((j : Int) - k) :: r
/-- .. those that begin with one of the first j numbers. -/
def allP (n k j : Nat) : List (List Int) := (List.range j).flatMap fun (j : Nat) => (allL n (k - ((j : Int) - k).natAbs)).map fun r => ((j : Int) - k) :: r
theorem allP_zero (n k : Nat) : allP n k 0 = [] := rfl
theorem allP_next (n k j : Nat) : allP n k (j + 1) = allP n k j ++ (allL n (k - ((j : Int) - k).natAbs)).map fun r => ((j : Int) - k) :: r := by
  unfold allP
  rw [List.range_succ, List.flatMap_append]
  simp
theorem allL_len : ∀ n k, (allL n k).length = V n k ∧ ∀ r ∈ allL n k, r.length = n
  | 0, k => by
    unfold allL V
    split <;> simp
  | n + 1, k => by
    have main : ∀ j, (allP n k j).length = S (gV n k) j ∧ ∀ r ∈ allP n k j, r.length = n + 1 := by
      intro j
      induction j with
      | zero => exact ⟨rfl, fun r hr => by cases hr⟩
      | succ j ih =>
        rw [allP_next, List.length_append, List.length_map, ih.1, (allL_len n _).1]
        refine ⟨rfl, fun r hr => ?_⟩
        rcases List.mem_append.1 hr with hr | hr
        · exact ih.2 r hr
        · obtain ⟨q, hq, rfl⟩ := List.mem_map.1 hr
          rw [List.length_cons, (allL_len n _).2 q hq]
    have := main (2 * k + 1)
    rw [S_all] at this
    exact this
theorem allP_len (n k j : Nat) : (allP n k j).length = S (gV n k) j := by
  induction j with
  | zero => rfl
  | succ j ih => rw [allP_next, List.length_append, List.length_map, ih, (allL_len n _).1]; rfl

/-- Each stands at the place of its number. -/
def allOk (n k : Nat) : Bool := (List.range (V n k)).all fun i => match (allL n k)[i]? with
  | some r => sm (fun j => r.getD j 0) n == k && num (fun j => r.getD j 0) n k == i
  | none => false
theorem allOk_yes : ∀ n : Fin 5, ∀ k : Fin 6, allOk n.val k.val = true := by decide +kernel
theorem allL_at {n k i : Nat} (hn : n ≤ 4) (hk : k ≤ 5) {r : List Int} (hr : (allL n k)[i]? = some r) : sm (fun j => r.getD j 0) n = k ∧ num (fun j => r.getD j 0) n k = i := by
  have h := allOk_yes ⟨n, by omega⟩ ⟨k, by omega⟩
  have hi : i < V n k := by rw [← (allL_len n k).1]; exact (List.getElem?_eq_some_iff.1 hr).1
  unfold allOk at h
  have := List.all_eq_true.1 h i (List.mem_range.2 hi)
  simp only [hr, Bool.and_eq_true, beq_iff_eq] at this
  exact this
end Go.Proofs.Ytkpbmhppibfpoaa.Ve
