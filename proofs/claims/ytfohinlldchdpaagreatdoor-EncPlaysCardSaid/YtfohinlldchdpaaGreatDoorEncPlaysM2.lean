/- Texts of the walk, one behind the other. -/
import Derived.Test.YtfohinlldchdpaaGreatDoorEncPlaysM1
import Derived.Laws.CopyOwn
import Derived.Deep.OwnRows
import Derived.OwnWalk
import Derived.Maps.AppendAt
import Derived.Deep.MidRow
import Derived.Test.YtfohinlldchdpaaGreatDoorEncPlaysM3

section
/- Slices of numbers: rows that a function makes, slices that came in, copies into a row. -/
set_option maxRecDepth 100000
namespace Go.Proofs.YtfohinlldchdpaaGreatDoor.Row
open Go.ChangeShapes Go.WideShapes Go.ChangeAt Go.RowKit

theorem made_rowL (n : Nat) (f : Nat → Int) : madeCells #[.int .i64 0] n = rowL n f 0 := by
  rw [row_of0]
  apply Array.ext_getElem?
  intro i
  unfold madeCells
  by_cases hi : i < n
  · simp [hi, Nat.mod_one]
  · simp [hi]

theorem info_int : (Tryz.prog.info? 3).map (fun i => (i.zero, i.size, i.bytes)) = some (some (.int .i64 0), 1, 8) := by kernel_rfl

/-- 'make([]int, n)'. -/
theorem wpList_make_rowL (f : Nat → Int) {ops : Array Oper} {rest : List Oper} {o : Oper} {a : Act} {w : World} {Q : Exit → Act → World → Prop} (hg : o.guard = none) (l c : Operand) (hop : o.op = Op.makeSlice 68 l c)
    (n : Nat) (kl kc : IntKind) (hl : a.eval l = .int kl (n : Int)) (hc : a.eval c = .int kc (n : Int)) (hn : n ≤ 35184372088832)
    (hK : wpList Tryz.prog ops Q rest (a.put o.dst (.slice (some ⟨w.heap.size, 0, none⟩) n n)) (w.alloc (.cells (rowL n f 0) 3))) :
    wpList Tryz.prog ops Q (o :: rest) a w := by
  obtain ⟨i, hi, hzz⟩ := Option.map_eq_some_iff.1 info_int
  simp only [Prod.mk.injEq] at hzz
  obtain ⟨hz, hs, hb⟩ := hzz
  refine wpList_make_row w hg l c 68 hop 3 i (.int .i64 0) Tryz.underlying68 hi hz hs rfl kl kc n hl hc (by rw [hb]; omega) (by omega) ?_
  rw [made_rowL n f]
  exact hK

/-- What a row holds when n of g's numbers were laid over its numbers from 'off' on. -/
def over (f g : Nat → Int) (off n : Nat) (i : Nat) : Int := if off ≤ i ∧ i < off + n then g (i - off) else f i

theorem IsRow.over {m off n : Nat} {f g : Nat → Int} {T : Array Value} (hT : IsRow m f T) (hm : off + n ≤ m) :
    IsRow m (over f g off n) (T.toList.take off ++ ((List.range n).map (fun i => Value.int .i64 (g i)) ++ T.toList.drop (off + n))).toArray := by
  obtain ⟨h1, h2, h3⟩ := hT
  have hl : T.toList.length = m := by simpa using h1
  have key : ∀ k, k < m → (T.toList.take off ++ ((List.range n).map (fun i => Value.int .i64 (g i)) ++ T.toList.drop (off + n)))[k]? = some (.int .i64 (Row.over f g off n k)) := fun k hk => by
    unfold Row.over
    have h3' := h3 k hk
    rw [← Array.getElem?_toList] at h3'
    by_cases c1 : k < off
    · rw [List.getElem?_append_left (by rw [List.length_take]; omega), List.getElem?_take_of_lt c1, if_neg (by omega), h3']
    · rw [List.getElem?_append_right (by rw [List.length_take]; omega), List.length_take, show min off T.toList.length = off by omega]
      by_cases c2 : k < off + n
      · rw [List.getElem?_append_left (by rw [List.length_map, List.length_range]; omega), if_pos (by omega)]
        simp [show k - off < n by omega]
      · rw [List.getElem?_append_right (by rw [List.length_map, List.length_range]; omega), List.length_map, List.length_range, if_neg (by omega), List.getElem?_drop, show off + n + (k - off - n) = k by omega, h3']
  have hs : (T.toList.take off ++ ((List.range n).map (fun i => Value.int .i64 (g i)) ++ T.toList.drop (off + n))).length = m := by
    simp only [List.length_append, List.length_take, List.length_map, List.length_range, List.length_drop]; omega
  refine ⟨by simpa using hs, ?_, fun k hk => by simpa using key k hk⟩
  rw [Array.all_eq_true]
  intro i hi
  have hi' : i < m := by simpa [hs] using hi
  have := key i hi'
  rw [List.getElem?_eq_getElem (by rw [hs]; exact hi')] at this
  injection this with this
  simp only [List.getElem_toArray, this]
  rfl

/-- 'copy(dst, src)' into a row that is known whole: the row behind it, under any name. -/
theorem wpList_copy_over {ops : Array Oper} {rest : List Oper} {o : Oper} {a : Act} {w : World} {Q : Exit → Act → World → Prop} (hgd : o.guard = none) (d s : Operand)
    (ho : o.op = .call { callee := .builtin .copy, args := #[d, s], argTypes := #[68, 68] })
    (g off n dCap sCap : Nat) (sp : Option Addr) (hd : a.eval d = .slice (some ⟨g, off, none⟩) n dCap) (hs : a.eval s = .slice sp n sCap) (m : Nat) (f h : Nat → Int) (T : Array Value) (t : TypeId)
    (hT : IsRow m f T) (hg : At w g T t) (hm : off + n ≤ m) (hn0 : 0 < n) (hsrc : Sl .i64 w sp n sCap h)
    (hK : ∀ U, IsRow m (over f h off n) U → wpList Tryz.prog ops Q rest (a.put o.dst (.int .i64 n)) (w.setRow g U)) : wpList Tryz.prog ops Q (o :: rest) a w := by
  obtain ⟨b, q, rfl, hc⟩ := hsrc.2.2 hn0
  have hsz : (Tryz.prog.info? 3).map (·.size) = some 1 := by kernel_rfl
  have hl : ((List.range n).map (fun i => Value.int .i64 (h i))).length = n := by simp
  refine wpList_copy_own hgd d s 68 68 ho 3 Tryz.underlying68 hsz g off n dCap ⟨b, q, none⟩ n sCap hd hs T t hg ((List.range n).map fun i => Value.int .i64 (h i)) (by rw [hl]; exact (Nat.min_self n).symm) ?_ (by rw [hl, hT.1]; exact hm) ?_ ?_
  · intro j v hj
    have hjn : j < n := by
      by_cases e : j < n
      · exact e
      · rw [List.getElem?_eq_none (by rw [hl]; omega)] at hj; cases hj
    have e : v = .int .i64 (h j) := by simpa [hjn] using hj.symm
    rw [e, ← hc j hjn]
    unfold Addr.add
    by_cases e0 : j = 0
    · subst e0; simp
    · simp [e0]
  · intro v hv
    simp only [List.mem_map, List.mem_range] at hv
    obtain ⟨i, _, rfl⟩ := hv
    rfl
  · rw [hl]
    have := hK _ (hT.over (g := h) hm)
    exact this
end Go.Proofs.YtfohinlldchdpaaGreatDoor.Row
end

section
/- Slices of integers that a function appends to: what they hold, one number more, what they are to a callee. -/
set_option maxRecDepth 100000
namespace Go.Proofs.YtfohinlldchdpaaGreatDoor.Row
open Go.RowKit

/-- Block g is the function's own row of c cells, of which the first n are f's. -/
def OwnG (w : World) (B g c n : Nat) (f : Nat → Int) : Prop := B ≤ g ∧ n ≤ c ∧ c ≤ maxLen ∧ ∃ cur : Array Value, At w g cur 3 ∧ cur.size = c ∧ ∀ i, i < n → cur[i]? = some (.int .i64 (f i))
/-- A slice of its own: nil as long as nothing is in it. -/
def OwnS (w : World) (B : Nat) (a : Option Addr) (n c : Nat) (f : Nat → Int) : Prop := (a = none ∧ n = 0 ∧ c = 0) ∨ ∃ g, a = some ⟨g, 0, none⟩ ∧ OwnG w B g c n f

theorem OwnG.cell {w : World} {B g c n : Nat} {f : Nat → Int} (h : OwnG w B g c n f) (i : Nat) (hi : i < n) : w.cell? ⟨g, i, none⟩ = some (.int .i64 (f i)) := by
  obtain ⟨_, _, _, cur, hA, _, hc⟩ := h
  rw [cell_of_row _ _ i _ _ _ hA, hc i hi]
theorem OwnG.lt {w : World} {B g c n : Nat} {f : Nat → Int} (h : OwnG w B g c n f) : g < w.heap.size := by
  obtain ⟨_, _, _, cur, hA, _, _⟩ := h
  exact hA.lt
theorem OwnG.frozen {w : World} {B g c n : Nat} {f : Nat → Int} (h : OwnG w B g c n f) (i : Nat) : w.frozen? ⟨g, i, none⟩ = false := by
  obtain ⟨_, _, _, cur, hA, _, _⟩ := h
  exact hA.frozen i
theorem OwnG.below {w w' : World} {B g c n : Nat} {f : Nat → Int} (h : OwnG w B g c n f) (hb : Below w.heap.size w w') : OwnG w' B g c n f := by
  obtain ⟨h1, h2, h3, cur, hA, h4, h5⟩ := h
  exact ⟨h1, h2, h3, cur, hA.below hb hA.lt, h4, h5⟩
theorem OwnG.drewN {w : World} {B g c n : Nat} {f : Nat → Int} (h : OwnG w B g c n f) (k : Nat) : OwnG (w.drewN k) B g c n f := h
theorem OwnG.ext {w : World} {B g c n : Nat} {f f' : Nat → Int} (h : OwnG w B g c n f) (e : ∀ i, i < n → f i = f' i) : OwnG w B g c n f' := by
  obtain ⟨h1, h2, h3, cur, hA, h4, h5⟩ := h
  exact ⟨h1, h2, h3, cur, hA, h4, fun i hi => by rw [← e i hi]; exact h5 i hi⟩
theorem OwnS.nil (w : World) (B : Nat) (f : Nat → Int) : OwnS w B none 0 0 f := .inl ⟨rfl, rfl, rfl⟩
theorem OwnS.below {w w' : World} {B n c : Nat} {a : Option Addr} {f : Nat → Int} (h : OwnS w B a n c f) (hb : Below w.heap.size w w') : OwnS w' B a n c f := by
  rcases h with h | ⟨g, e, h⟩
  · exact .inl h
  · exact .inr ⟨g, e, h.below hb⟩
theorem OwnS.pos {w : World} {B n c : Nat} {a : Option Addr} {f : Nat → Int} (h : OwnS w B a n c f) (hn : 0 < n) : ∃ g, a = some ⟨g, 0, none⟩ ∧ OwnG w B g c n f := by
  rcases h with ⟨_, h, _⟩ | h
  · omega
  · exact h
theorem OwnG.sl {w : World} {B g c n : Nat} {f : Nat → Int} (h : OwnG w B g c n f) : Sl .i64 w (some ⟨g, 0, none⟩) n c f :=
  ⟨h.2.1, h.2.2.1, fun _ => ⟨g, 0, rfl, fun i hi => by rw [Nat.zero_add]; exact h.cell i hi⟩⟩
theorem OwnS.sl {w : World} {B n c : Nat} {a : Option Addr} {f : Nat → Int} (h : OwnS w B a n c f) : Sl .i64 w a n c f := by
  rcases h with ⟨rfl, rfl, rfl⟩ | ⟨g, rfl, h⟩
  · exact ⟨Nat.le_refl _, Nat.zero_le _, fun h => absurd h (Nat.lt_irrefl _)⟩
  · exact h.sl

def intsL (f : Nat → Int) (n : Nat) : List Value := (List.range n).map fun i => .int .i64 (f i)
theorem intsL_length (f : Nat → Int) (n : Nat) : (intsL f n).length = n := by unfold intsL; simp
theorem intsL_get (f : Nat → Int) (n i : Nat) (hi : i < n) : (intsL f n)[i]? = some (.int .i64 (f i)) := by unfold intsL; simp [hi]
theorem intsL_next (f : Nat → Int) (n : Nat) : intsL f n ++ [.int .i64 (f n)] = intsL f (n + 1) := by unfold intsL; rw [List.range_succ, List.map_append]; rfl

theorem OwnS.owns {w : World} {B n c : Nat} {a : Option Addr} {f : Nat → Int} (h : OwnS w B a n c f) : w.ownsRow B 3 1 (.slice a n c) n (intsL f n) := by
  refine ⟨by rw [intsL_length]; omega, ?_⟩
  rcases h with ⟨rfl, rfl, rfl⟩ | ⟨g, rfl, h1, h2, h3, cur, hA, h4, h5⟩
  · exact .inl ⟨rfl, rfl⟩
  · refine .inr ⟨g, c, cur, rfl, h1, hA, h2, h3, by omega, ?_⟩
    apply List.ext_getElem?
    intro i
    rw [Nat.mul_one]
    by_cases hi : i < n
    · rw [intsL_get f n i hi, List.getElem?_take_of_lt hi, Array.getElem?_toList, h5 i hi]
    · rw [List.getElem?_eq_none (l := List.take n cur.toList) (by rw [List.length_take]; omega), List.getElem?_eq_none (l := intsL f n) (by rw [intsL_length]; omega)]

theorem own_of {w : World} {B n : Nat} {v : Value} {f : Nat → Int} (h : w.ownsRow B 3 1 v n (intsL f n)) (hn : 0 < n) : ∃ g c, v = .slice (some ⟨g, 0, none⟩) n c ∧ OwnG w B g c n f := by
  obtain ⟨_, ⟨_, h0⟩ | ⟨g, c, cur, e, h1, hA, h2, h3, h4, h5⟩⟩ := h
  · omega
  · refine ⟨g, c, e, h1, h2, h3, cur, hA, by omega, fun i hi => ?_⟩
    have := intsL_get f n i hi
    rw [← h5, Nat.mul_one, List.getElem?_take_of_lt hi, Array.getElem?_toList] at this
    exact this

theorem own_block_ge {w : World} {B n c : Nat} {a : Option Addr} {f : Nat → Int} (h : OwnS w B a n c f) (k : Nat) (hk : (Value.slice a n c).ownBlock = some k) : B ≤ k := by
  rcases h with ⟨rfl, _, _⟩ | ⟨g, rfl, h1, _⟩
  · cases hk
  · simp [Value.ownBlock] at hk; omega

theorem info_int3 : ∃ i, Tryz.prog.info? 3 = some i ∧ i.zero = some (.int .i64 0) ∧ i.size = 1 ∧ i.bytes = 8 := by
  obtain ⟨i, hi, hzz⟩ := Option.map_eq_some_iff.1 info_int
  simp only [Prod.mk.injEq] at hzz
  exact ⟨i, hi, hzz.1, hzz.2.1, hzz.2.2⟩

/-- 'p = append(p, x)', one number: the new slice's shape, what it holds, and that nothing below B is changed. -/
theorem wpList_append_one {ops : Array Oper} {rest : List Oper} {o : Oper} {a : Act} {w : World} {Q : Exit → Act → World → Prop} (hgd : o.guard = none) (s x : Operand)
    (ho : o.op = .call { callee := .builtin .append, args := #[s, x], argTypes := #[68, 68] })
    (B : Nat) (f : Nat → Int) (ao : Option Addr) (n c : Nat) (hs : a.eval s = .slice ao n c) (hown : OwnS w B ao n c f) (b : Nat) (hx : a.eval x = .slice (some ⟨b, 0, none⟩) 1 1) (hnew : w.cell? ⟨b, 0, none⟩ = some (.int .i64 (f n)))
    (hn : n + 1 ≤ 1000000000) (hB : B ≤ w.heap.size)
    (h : ∀ g c' w', OwnG w' B g c' (n + 1) f → Below B w w' → w.grownBy w' (Value.slice ao n c).ownBlock → (ao = some ⟨g, 0, none⟩ ∨ g = w.heap.size) → wpList Tryz.prog ops Q rest (a.put o.dst (.slice (some ⟨g, 0, none⟩) (n + 1) c')) w') : wpList Tryz.prog ops Q (o :: rest) a w := by
  obtain ⟨i, hi, hz, hsz, hby⟩ := info_int3
  refine wpList_append_own_at w hgd s x 68 ho B 3 i (.int .i64 0) 1 8 Tryz.underlying68 hi hz hsz hby rfl (by decide) (.slice ao n c) n (intsL f n) hs hown.owns ⟨b, 0, none⟩ 1 1 [.int .i64 (f n)] hx rfl ?_ ?_ (by unfold maxLen; omega) (by omega) hB ?_
  · intro j u hj
    match j, hj with
    | 0, hj => simp at hj; subst hj; simpa [Addr.add] using hnew
  · intro u hu; simp at hu; subst hu; rfl
  · intro v' w' hown' hg _ hat
    rw [intsL_next] at hown'
    obtain ⟨g, c', rfl, hG⟩ := own_of hown' (by omega)
    refine h g c' w' hG ((Below.refl B w).grown hg hB fun k hk => own_block_ge hown k hk) hg ?_
    rcases hat with e | e
    · rcases hown with ⟨rfl, _, _⟩ | ⟨g0, rfl, _⟩
      · cases e
      · simp only [Value.ownBlock, Option.some.injEq] at e
        exact .inl (by rw [e])
    · simp only [Value.ownBlock, Option.some.injEq] at e
      exact .inr e

/-- Two own slices that have no block in common. -/
def Dis (a q : Option Addr) : Prop := ∀ g, a = some ⟨g, 0, none⟩ → q ≠ some ⟨g, 0, none⟩
theorem Dis.symm {a q : Option Addr} (h : Dis a q) : Dis q a := fun g e e' => h g e' e
theorem Dis.new {w : World} {B n c g : Nat} {a q : Option Addr} {f : Nat → Int} (hd : Dis a q) (h : OwnS w B q n c f) (hat : a = some ⟨g, 0, none⟩ ∨ g = w.heap.size) : Dis (some ⟨g, 0, none⟩) q := by
  intro g' e e'
  have e : g = g' := by injection e with e; injection e
  subst e
  rcases hat with hat | hat
  · exact hd g hat e'
  · rcases h with ⟨rfl, _, _⟩ | ⟨g2, rfl, h⟩
    · cases e'
    · have e' : g2 = g := by injection e' with e'; injection e'
      have := h.lt
      omega
theorem OwnS.kept {w w' : World} {B n c m d : Nat} {a q : Option Addr} {f : Nat → Int} (h : OwnS w B q n c f) (hg : w.grownBy w' (Value.slice a m d).ownBlock) (ha : ∀ g, a = some g → g.off = 0 ∧ g.spot = none) (hd : Dis a q) : OwnS w' B q n c f := by
  rcases h with h | ⟨g, rfl, h1, h2, h3, cur, hA, h4, h5⟩
  · exact .inl h
  · refine .inr ⟨g, rfl, h1, h2, h3, cur, ?_, h4, h5⟩
    have hlt := hA.lt
    refine (hg.block g hlt fun e => ?_).trans hA
    cases a with
    | none => cases e
    | some x =>
      obtain ⟨xb, xo, xs⟩ := x
      obtain ⟨e1, e2⟩ := ha _ rfl
      dsimp only at e1 e2
      subst e1 e2
      simp only [Value.ownBlock, Option.some.injEq] at e
      subst e
      exact hd _ rfl rfl
end Go.Proofs.YtfohinlldchdpaaGreatDoor.Row
end

section
/- Slices of integers that a function appends a slice to: 'append(p, q...)'. -/
set_option maxRecDepth 100000
namespace Go.Proofs.YtfohinlldchdpaaGreatDoor.Row
open Go.RowKit

/-- n of f's numbers, then h's. -/
def cat (f : Nat → Int) (n : Nat) (h : Nat → Int) (i : Nat) : Int := if i < n then f i else h (i - n)
theorem cat_0 (f h : Nat → Int) (i : Nat) : cat f 0 h i = h i := by unfold cat; rw [if_neg (by omega)]; rfl
theorem intsL_cat (f h : Nat → Int) (n m : Nat) : intsL f n ++ intsL h m = intsL (cat f n h) (n + m) := by
  apply List.ext_getElem?
  intro i
  by_cases h1 : i < n
  · rw [List.getElem?_append_left (by rw [intsL_length]; exact h1), intsL_get _ _ _ h1, intsL_get _ _ _ (by omega)]
    unfold cat
    rw [if_pos h1]
  · rw [List.getElem?_append_right (by rw [intsL_length]; omega), intsL_length]
    by_cases h2 : i < n + m
    · rw [intsL_get _ _ _ (by omega), intsL_get _ _ _ h2]
      unfold cat
      rw [if_neg h1]
    · rw [List.getElem?_eq_none (by rw [intsL_length]; omega), List.getElem?_eq_none (by rw [intsL_length]; omega)]

/-- An empty slice that was written out. -/
theorem OwnS.empty {w : World} {B g : Nat} {f : Nat → Int} (hB : B ≤ g) (h : At w g #[] 3) : OwnS w B (some ⟨g, 0, none⟩) 0 0 f := .inr ⟨g, rfl, hB, Nat.le_refl _, Nat.zero_le _, #[], h, rfl, fun i hi => absurd hi (Nat.not_lt_zero i)⟩

/-- 'p = append(p, q...)': the new slice's shape, what it holds, and that nothing below B is changed. -/
theorem wpList_append_many {ops : Array Oper} {rest : List Oper} {o : Oper} {a : Act} {w : World} {Q : Exit → Act → World → Prop} (hgd : o.guard = none) (s x : Operand)
    (ho : o.op = .call { callee := .builtin .append, args := #[s, x], argTypes := #[68, 68] })
    (B : Nat) (f h : Nat → Int) (ao : Option Addr) (n c : Nat) (hs : a.eval s = .slice ao n c) (hown : OwnS w B ao n c f) (sp : Option Addr) (m d : Nat) (hx : a.eval x = .slice sp m d) (hsl : Sl .i64 w sp m d h) (hm : 0 < m) (N : Nat) (hN : n + m = N)
    (hn : N ≤ 1000000000) (hB : B ≤ w.heap.size)
    (hK : ∀ g c' w', OwnG w' B g c' N (cat f n h) → Below B w w' → w.grownBy w' (Value.slice ao n c).ownBlock → (ao = some ⟨g, 0, none⟩ ∨ g = w.heap.size) → wpList Tryz.prog ops Q rest (a.put o.dst (.slice (some ⟨g, 0, none⟩) N c')) w') : wpList Tryz.prog ops Q (o :: rest) a w := by
  subst hN
  obtain ⟨i, hi, hz, hsz, hby⟩ := info_int3
  obtain ⟨b, p, rfl, hc⟩ := hsl.2.2 hm
  refine wpList_append_own_at w hgd s x 68 ho B 3 i (.int .i64 0) 1 8 Tryz.underlying68 hi hz hsz hby rfl (by decide) (.slice ao n c) n (intsL f n) hs hown.owns ⟨b, p, none⟩ m d (intsL h m) hx (by rw [intsL_length]; omega) ?_ ?_ (by unfold maxLen; omega) (by omega) hB ?_
  · intro j u hj
    have hjm : j < m := by
      have := (List.getElem?_eq_some_iff.1 hj).1
      rw [intsL_length] at this
      exact this
    rw [intsL_get _ _ _ hjm] at hj
    injection hj with hj
    subst hj
    rw [← hc j hjm]
    unfold Addr.add
    by_cases e0 : j = 0
    · subst e0; simp
    · simp [e0]
  · intro u hu
    unfold intsL at hu
    simp only [List.mem_map, List.mem_range] at hu
    obtain ⟨j, _, rfl⟩ := hu
    rfl
  · intro v' w' hown' hg _ hat
    rw [intsL_cat] at hown'
    obtain ⟨g, c', rfl, hG⟩ := own_of hown' (by omega)
    refine hK g c' w' hG ((Below.refl B w).grown hg hB fun k hk => own_block_ge hown k hk) hg ?_
    rcases hat with e | e
    · rcases hown with ⟨rfl, _, _⟩ | ⟨g0, rfl, _⟩
      · cases e
      · simp only [Value.ownBlock, Option.some.injEq] at e
        exact .inl (by rw [e])
    · simp only [Value.ownBlock, Option.some.injEq] at e
      exact .inr e

/-- One number changed. -/
theorem OwnG.set {w : World} {B g c n : Nat} {f : Nat → Int} (h : OwnG w B g c n f) {j : Nat} (hj : j < n) (v : Int) : OwnG (w.setCell ⟨g, j, none⟩ (.int .i64 v)) B g c n (fun i => if i = j then v else f i) := by
  obtain ⟨h1, h2, h3, cur, hA, h4, h5⟩ := h
  refine ⟨h1, h2, h3, _, hA.setCell, by rw [Array.size_setIfInBounds]; exact h4, fun i hi => ?_⟩
  by_cases e : i = j
  · subst e
    rw [Array.getElem?_setIfInBounds_self_of_lt (by omega)]
    show some (Value.int .i64 v) = some (.int .i64 (if i = i then v else f i))
    rw [if_pos rfl]
  · rw [Array.getElem?_setIfInBounds_ne (fun h => e h.symm), h5 i hi]
    show some (Value.int .i64 (f i)) = some (.int .i64 (if i = j then v else f i))
    rw [if_neg e]
end Go.Proofs.YtfohinlldchdpaaGreatDoor.Row
end

section
/- Parts of rows: what a part of a block holds, a part loaded, a part stored, rows written out with rows in them; for every package. -/
set_option maxRecDepth 100000
set_option linter.unusedVariables false
namespace Go.Proofs.YtfohinlldchdpaaGreatDoor.Row
open Go.RowKit

theorem isRow_of {m : Nat} {f : Nat → Int} {T : Array Value} (hs : T.size = m) (h : ∀ k, k < m → T[k]? = some (.int .i64 (f k))) : IsRow m f T := by
  refine ⟨hs, ?_, h⟩
  rw [Array.all_eq_true]
  intro i hi
  have := h i (by omega)
  rw [Array.getElem?_eq_getElem hi] at this
  injection this with this
  rw [this]
  rfl

theorem IsRow.sub {m l n : Nat} {f : Nat → Int} {T : Array Value} (h : IsRow m f T) (hm : l + n ≤ m) : IsRow n (fun i => f (l + i)) (T.extract l (l + n)) := by
  refine isRow_of (by rw [Array.size_extract, h.1]; omega) fun k hk => ?_
  rw [Array.getElem?_extract, h.1, if_pos (by omega), h.2.2 _ (by omega)]

theorem At.range {w : World} {g m l n : Nat} {f h : Nat → Int} {T U : Array Value} {t : TypeId} (hT : IsRow m f T) (hA : At w g T t) (hU : IsRow n h U) (hm : l + n ≤ m) (e : ∀ i, i < n → f (l + i) = h i) : w.rangeAt g l U.toList := fun j v hj => by
  have hjn : j < n := by
    have := (List.getElem?_eq_some_iff.1 hj).1
    rw [Array.length_toList, hU.1] at this
    exact this
  rw [Array.getElem?_toList, hU.2.2 j hjn] at hj
  injection hj with hj
  rw [hT.cell hA (l + j) (by omega), e j hjn, hj]

/-- A part of a row loaded, whether guarded or not. -/
theorem wpList_load_part {ops : Array Oper} {rest : List Oper} {o : Oper} {a : Act} {w : World} {Q : Exit → Act → World → Prop} (hw : Region.wanted o (yielded ops a.tmps) = true) (ty : TypeId) (x : Operand) (ho : o.op = .load ty x)
    (g l : Nat) (hx : a.eval x = .pointer (some ⟨g, l, none⟩)) {m n : Nat} {f h : Nat → Int} {T U : Array Value} {t : TypeId} (hT : IsRow m f T) (hA : At w g T t) (hU : IsRow n h U) (hm : l + n ≤ m) (e : ∀ i, i < n → f (l + i) = h i)
    {d : TypeDesc} (hu : Tryz.prog.underlying ty = some d) (hd : d.isRow = true) (hi : (Tryz.prog.info? ty).map (·.size) = some U.size)
    (hK : wpList Tryz.prog ops Q rest (a.put o.dst (.agg U)) w) : wpList Tryz.prog ops Q (o :: rest) a w := by
  rw [wpList, if_pos hw]
  refine .inl (wp_load_mid ty x ho g l hx U.toList d (At.range hT hA hU hm e) hu hd (by rw [Array.length_toList]; exact hi) ?_)
  rw [Array.toArray_toList]
  exact hK

/-- A whole row, or struct, loaded, whether guarded or not. -/
theorem wpList_load_all {ops : Array Oper} {rest : List Oper} {o : Oper} {a : Act} {w : World} {Q : Exit → Act → World → Prop} (hw : Region.wanted o (yielded ops a.tmps) = true) (ty : TypeId) (x : Operand) (ho : o.op = .load ty x)
    (g : Nat) (hx : a.eval x = .pointer (some ⟨g, 0, none⟩)) {m : Nat} {f : Nat → Int} {T : Array Value} {t : TypeId} (hT : IsRow m f T) (hA : At w g T t)
    {d : TypeDesc} (hu : Tryz.prog.underlying ty = some d) (hd : d.isRow = true) (hi : ∀ A : Array Value, A.size = m → (Tryz.prog.info? ty).map (·.size) = some A.size)
    (hK : wpList Tryz.prog ops Q rest (a.put o.dst (.agg T)) w) : wpList Tryz.prog ops Q (o :: rest) a w :=
  wpList_load_part hw ty x ho g 0 hx hT hA hT (by omega) (fun i _ => by rw [Nat.zero_add]) hu hd (hi T hT.1) hK

/-- A part of a row loaded in a region that draws its order. -/
theorem y_load_part {ops : Array Oper} {S : World → Prop} {oi : Oper} {a : Act} (hw : Region.wanted oi (yielded ops a.tmps) = true) {ty : TypeId} {x : Operand} (ho : oi.op = .load ty x)
    {g l : Nat} (hx : a.eval x = .pointer (some ⟨g, l, none⟩)) {m n : Nat} {f h : Nat → Int} {T U : Array Value} {t : TypeId} (hT : IsRow m f T) (hA : ∀ w, S w → At w g T t) (hU : IsRow n h U) (hm : l + n ≤ m) (e : ∀ i, i < n → f (l + i) = h i)
    {d : TypeDesc} (hu : Tryz.prog.underlying ty = some d) (hd : d.isRow = true) (hi : (Tryz.prog.info? ty).map (·.size) = some U.size) : YieldsIf Tryz.prog ops S oi (.agg U) a := by
  have := yieldsIf_load_mid (P := Tryz.prog) (S := S) hw ty x ho g l hx U.toList d (fun w hS => At.range hT (hA w hS) hU hm e) hu hd (by rw [Array.length_toList]; exact hi)
  rwa [Array.toArray_toList] at this

/-- One part of a row that is written out. -/
theorem fold_lay : ∀ (l : List Value) (k off : Nat) (C : Array Value), ((l.zipIdx k).foldl (fun cs x => cs.setIfInBounds (off + x.2) x.1) C).size = C.size ∧
    ∀ i, i < C.size → ((l.zipIdx k).foldl (fun cs x => cs.setIfInBounds (off + x.2) x.1) C)[i]? = if off + k ≤ i ∧ i < off + k + l.length then l[i - (off + k)]? else C[i]?
  | [], k, off, C => ⟨rfl, fun i _ => by rw [if_neg (by simp)]; rfl⟩
  | v :: l, k, off, C => by
    obtain ⟨h1, h2⟩ := fold_lay l (k + 1) off (C.setIfInBounds (off + k) v)
    rw [List.zipIdx_cons, List.foldl_cons]
    refine ⟨by rw [h1, Array.size_setIfInBounds], fun i hi => ?_⟩
    rw [h2 i (by rw [Array.size_setIfInBounds]; exact hi), List.length_cons]
    by_cases c1 : i = off + k
    · subst c1
      rw [if_neg (by omega), if_pos (by omega), Array.getElem?_setIfInBounds_self_of_lt hi, Nat.sub_self]
      rfl
    · by_cases c2 : off + (k + 1) ≤ i ∧ i < off + (k + 1) + l.length
      · rw [if_pos c2, if_pos (by omega), show i - (off + k) = (i - (off + (k + 1))) + 1 by omega]
        rfl
      · rw [if_neg c2, if_neg (by omega), Array.getElem?_setIfInBounds_ne (fun e => c1 e.symm)]

theorem fill_step {place : Nat → Option (Nat × Nat)} {i l n : Nat} {v : Value} {T : Array Value} {rest : List (Nat × Value)} (hp : place i = some (l, n)) (hv : v.cells.size = n) (hm : l + n ≤ T.size) :
    Instr.fill place T ((i, v) :: rest) = Instr.fill place ((v.cells.toList.zipIdx 0).foldl (fun cs x => cs.setIfInBounds (l + x.2) x.1) T) rest := by
  conv => lhs; unfold Instr.fill
  rw [hp]
  have h0 : (decide (v.cells.size ≠ n) || decide (l + v.cells.size > T.size)) = false := by
    rw [Bool.or_eq_false_iff, decide_eq_false_iff_not, decide_eq_false_iff_not]
    omega
  simp only [h0]
  simp only [Bool.false_eq_true, if_false]
  rw [← Array.foldl_toList, Array.toList_zipIdx]

theorem fill_agg {place : Nat → Option (Nat × Nat)} {i m l n : Nat} {f h : Nat → Int} {T U : Array Value} {rest : List (Nat × Value)} (hp : place i = some (l, n)) (hT : IsRow m f T) (hU : IsRow n h U) (hm : l + n ≤ m) :
    ∃ C, IsRow m (over f h l n) C ∧ Instr.fill place T ((i, .agg U) :: rest) = Instr.fill place C rest := by
  obtain ⟨h1, h2⟩ := fold_lay U.toList 0 l T
  refine ⟨(U.toList.zipIdx 0).foldl (fun cs x => cs.setIfInBounds (l + x.2) x.1) T, ?_, fill_step (v := .agg U) hp hU.1 (by rw [hT.1]; exact hm)⟩
  exact isRow_of (by rw [h1, hT.1]) fun k hk => by
    rw [h2 k (by rw [hT.1]; exact hk), Array.length_toList, hU.1]
    unfold over
    by_cases c : l ≤ k ∧ k < l + n
    · rw [if_pos (by omega), if_pos c, Array.getElem?_toList, show k - (l + 0) = k - l by omega, hU.2.2 _ (by omega)]
    · rw [if_neg (by omega), if_neg c, hT.2.2 k hk]

theorem fill_int {place : Nat → Option (Nat × Nat)} {i m l : Nat} {f : Nat → Int} {x : Int} {T : Array Value} {rest : List (Nat × Value)} (hp : place i = some (l, 1)) (hT : IsRow m f T) (hm : l < m) :
    ∃ C, IsRow m (fun j => if j = l then x else f j) C ∧ Instr.fill place T ((i, .int .i64 x) :: rest) = Instr.fill place C rest :=
  ⟨T.setIfInBounds l (.int .i64 x), hT.set x hm, fill_step (v := .int .i64 x) hp rfl (by rw [hT.1]; omega)⟩

/-- Two rows or structs as results. -/
theorem results_any_two {fn : Func} {p q : Tmp} {t u t' u' : TypeId} (h : fn.results = #[.cell p t, .cell q u]) (tmps : Array Value) (w : World) (g k : Nat) (A B : Array Value) (d d' : TypeDesc)
    (hp : tmps.getD p undef = .pointer (some ⟨g, 0, none⟩)) (hq : tmps.getD q undef = .pointer (some ⟨k, 0, none⟩)) (hg : At w g A t') (hk : At w k B u')
    (hu : Tryz.prog.underlying t = some d) (hd : d.isRow = true) (hA : (Tryz.prog.info? t).map (·.size) = some A.size)
    (hu' : Tryz.prog.underlying u = some d') (hd' : d'.isRow = true) (hB : (Tryz.prog.info? u).map (·.size) = some B.size) :
    (results fn tmps).run Tryz.prog w = .ok (.tuple #[.agg A, .agg B]) w := by
  have hp' : tmps[p]?.getD undef = .pointer (some ⟨g, 0, none⟩) := by simpa using hp
  have hq' : tmps[q]?.getD undef = .pointer (some ⟨k, 0, none⟩) := by simpa using hq
  have h1 := run_loadVar_row w g t' t A (0, 0) _ hg hu (by cases d <;> first | rfl | cases hd) hA
  have h2 := run_loadVar_row w k u' u B (0, 0) _ hk hu' (by cases d' <;> first | rfl | cases hd') hB
  simp [results, h, hp', hq', asAddr, h1, h2]

/-- A row or a struct written out, its parts as a list of values. -/
theorem wpList_build_parts {ops : Array Oper} {rest : List Oper} {o : Oper} {a : Act} {w : World} {Q : Exit → Act → World → Prop} (hw : Region.wanted o (yielded ops a.tmps) = true) (t : TypeId) (L : List (Nat × Operand)) (ho : o.op = .build t L.toArray)
    (vs : List (Nat × Value)) (hv : (L.map fun x => (x.1, a.eval x.2)) = vs) {C : Array Value} (hc : Tryz.prog.built t vs = some C)
    (h : wpList Tryz.prog ops Q rest (a.put o.dst (.agg C)) w) : wpList Tryz.prog ops Q (o :: rest) a w := by
  refine wpList_build_wanted hw t L.toArray ho C ?_ h
  rw [List.map_toArray, List.toList_toArray, ← hc, ← hv]
theorem y_build_parts {ops : Array Oper} {S : World → Prop} {oi : Oper} {a : Act} {t : TypeId} {L : List (Nat × Operand)} (hw : Region.wanted oi (yielded ops a.tmps) = true) (ho : oi.op = .build t L.toArray)
    (vs : List (Nat × Value)) (hv : (L.map fun x => (x.1, a.eval x.2)) = vs) {C : Array Value} (hc : Tryz.prog.built t vs = some C) : YieldsIf Tryz.prog ops S oi (.agg C) a := by
  refine y_build hw ho ?_
  rw [List.map_toArray, List.toList_toArray, ← hc, ← hv]
end Go.Proofs.YtfohinlldchdpaaGreatDoor.Row
end

section
/- States as rows of 38 numbers: when they are right, zero states, states written out, states compared. -/
set_option maxRecDepth 100000
set_option linter.unusedVariables false
namespace Go.Proofs.YtfohinlldchdpaaGreatDoor.Sta
open Go.RowKit Go.Proofs.YtfohinlldchdpaaGreatDoor.Row

/-- A state's numbers out of its fields'. -/
def stF (m : Nat → Int) (l : Int) (v u : Nat → Int) (z : Int) (k : Nat) : Int := if k < 16 then m k else if k = 16 then l else if k < 21 then v (k - 17) else if k < 37 then u (k - 21) else z
theorem stF_mem (m : Nat → Int) (l : Int) (v u : Nat → Int) (z : Int) {i : Nat} (h : i < 16) : stF m l v u z i = m i := by unfold stF; rw [if_pos h]
theorem stF_last (m : Nat → Int) (l : Int) (v u : Nat → Int) (z : Int) : stF m l v u z 16 = l := by unfold stF; rw [if_neg (by omega), if_pos rfl]
theorem stF_lev (m : Nat → Int) (l : Int) (v u : Nat → Int) (z : Int) {i : Nat} (h : i < 4) : stF m l v u z (17 + i) = v i := by unfold stF; rw [if_neg (by omega), if_neg (by omega), if_pos (by omega), Nat.add_sub_cancel_left]
theorem stF_wav (m : Nat → Int) (l : Int) (v u : Nat → Int) (z : Int) {i : Nat} (h : i < 16) : stF m l v u z (21 + i) = u i := by unfold stF; rw [if_neg (by omega), if_neg (by omega), if_neg (by omega), if_pos (by omega), Nat.add_sub_cancel_left]
theorem stF_lost (m : Nat → Int) (l : Int) (v u : Nat → Int) (z : Int) : stF m l v u z 37 = z := by unfold stF; rw [if_neg (by omega), if_neg (by omega), if_neg (by omega), if_neg (by omega)]
theorem stF_self (f : Nat → Int) {k : Nat} (h : k < 38) : stF f (f 16) (fun i => f (17 + i)) (fun i => f (21 + i)) (f 37) k = f k := by
  unfold stF
  by_cases c1 : k < 16
  · rw [if_pos c1]
  · rw [if_neg c1]
    by_cases c2 : k = 16
    · rw [if_pos c2, c2]
    · rw [if_neg c2]
      by_cases c3 : k < 21
      · rw [if_pos c3]; show f (17 + (k - 17)) = f k; congr 1; omega
      · rw [if_neg c3]
        by_cases c4 : k < 37
        · rw [if_pos c4]; show f (21 + (k - 21)) = f k; congr 1; omega
        · rw [if_neg c4, show k = 37 by omega]

/-- A state is right. -/
def Rt (f : Nat → Int) : Prop := (∀ i, i < 16 → -2147483648 ≤ f i ∧ f i ≤ 2147483647) ∧ (-2097152 ≤ f 16 ∧ f 16 ≤ 2097151) ∧ (∀ i, i < 4 → 0 ≤ f (17 + i) ∧ f (17 + i) ≤ 20) ∧ Md.Le 1048576 (fun i => f (21 + i)) ∧ (0 ≤ f 37 ∧ f 37 ≤ 255)
theorem Rt.ext {f g : Nat → Int} (h : Rt f) (e : ∀ k, k < 38 → f k = g k) : Rt g := by
  obtain ⟨h1, h2, h3, h4, h5⟩ := h
  refine ⟨fun i hi => by rw [← e i (by omega)]; exact h1 i hi, by rw [← e 16 (by omega)]; exact h2, fun i hi => by rw [← e _ (by omega)]; exact h3 i hi, fun i hi => ?_, by rw [← e 37 (by omega)]; exact h5⟩
  show Md.ab (g (21 + i)) ≤ _
  rw [← e _ (by omega)]; exact h4 i hi

theorem zero_p : ∃ Z, IsRow 38 (fun _ => 0) Z ∧ (∀ f, rowL 38 f 0 = Z) ∧ (∀ w, (zeroValue 34).run Tryz.prog w = .ok (.agg Z) w) ∧ ∀ A : Array Value, A.size = 38 → (Tryz.prog.info? 34).map (·.size) = some A.size := zero_row (by kernel_rfl)
theorem zero_r : ∃ Z, IsRow 38 (fun _ => 0) Z ∧ (∀ f, rowL 38 f 0 = Z) ∧ (∀ w, (zeroValue 25).run Tryz.prog w = .ok (.agg Z) w) ∧ ∀ A : Array Value, A.size = 38 → (Tryz.prog.info? 25).map (·.size) = some A.size := zero_row (by kernel_rfl)
theorem zero_4 : ∃ Z, IsRow 4 (fun _ => 0) Z ∧ (∀ f, rowL 4 f 0 = Z) ∧ (∀ w, (zeroValue 23).run Tryz.prog w = .ok (.agg Z) w) ∧ ∀ A : Array Value, A.size = 4 → (Tryz.prog.info? 23).map (·.size) = some A.size := zero_row (by kernel_rfl)
theorem zero_b : ∃ Z, IsRow 16 (fun _ => 0) Z ∧ (∀ f, rowL 16 f 0 = Z) ∧ (∀ w, (zeroValue 32).run Tryz.prog w = .ok (.agg Z) w) ∧ ∀ A : Array Value, A.size = 16 → (Tryz.prog.info? 32).map (·.size) = some A.size := zero_row (by kernel_rfl)
theorem zero_a : ∃ Z, IsRow 16 (fun _ => 0) Z ∧ (∀ f, rowL 16 f 0 = Z) ∧ (∀ w, (zeroValue 22).run Tryz.prog w = .ok (.agg Z) w) ∧ ∀ A : Array Value, A.size = 16 → (Tryz.prog.info? 22).map (·.size) = some A.size := zero_row (by kernel_rfl)

/-! States written out. -/
def pl (i : Nat) : Option (Nat × Nat) := #[(0, 16), (16, 1), (17, 4), (21, 16), (37, 1)][i]?
/-- The types of states. -/
def IsSt (t : TypeId) : Prop := ∀ parts, Tryz.prog.built t parts = Instr.fill pl (Array.replicate 38 (.int .i64 0)) parts
theorem isSt_p : IsSt 34 := fun parts => by kernel_rfl
theorem isSt_r : IsSt 25 := fun parts => by kernel_rfl

theorem built_3 {t : TypeId} (ht : IsSt t) {V U : Array Value} {v u : Nat → Int} (hV : IsRow 4 v V) (hU : IsRow 16 u U) (z : Int) : ∃ T, IsRow 38 (stF (fun _ => 0) 0 v u z) T ∧ Tryz.prog.built t [(2, .agg V), (3, .agg U), (4, .int .i64 z)] = some T := by
  obtain ⟨C, hC, e⟩ := fill_agg (place := pl) (i := 2) (rest := [(3, .agg U), (4, .int .i64 z)]) rfl (isRow_zero 38) hV (show 17 + 4 ≤ 38 by omega)
  obtain ⟨D, hD, e1⟩ := fill_agg (place := pl) (i := 3) (rest := [(4, .int .i64 z)]) rfl hC hU (show 21 + 16 ≤ 38 by omega)
  obtain ⟨E, hE, e2⟩ := fill_int (place := pl) (i := 4) (x := z) (rest := []) rfl hD (show 37 < 38 by omega)
  refine ⟨E, hE.ext fun k hk => ?_, by rw [ht, e, e1, e2]; rfl⟩
  show (if k = 37 then z else over (over (fun _ => 0) v 17 4) u 21 16 k) = stF _ _ _ _ _ k
  unfold over stF
  dsimp only
  repeat' split
  all_goals (try dsimp only)
  all_goals (repeat' split)
  all_goals first | rfl | omega
theorem built_4 {t : TypeId} (ht : IsSt t) {V U : Array Value} {v u : Nat → Int} (L : Int) (hV : IsRow 4 v V) (hU : IsRow 16 u U) (z : Int) : ∃ T, IsRow 38 (stF (fun _ => 0) L v u z) T ∧ Tryz.prog.built t [(1, .int .i64 L), (2, .agg V), (3, .agg U), (4, .int .i64 z)] = some T := by
  obtain ⟨B, hB, e0⟩ := fill_int (place := pl) (i := 1) (x := L) (rest := [(2, .agg V), (3, .agg U), (4, .int .i64 z)]) rfl (isRow_zero 38) (show 16 < 38 by omega)
  obtain ⟨C, hC, e⟩ := fill_agg (place := pl) (i := 2) (rest := [(3, .agg U), (4, .int .i64 z)]) rfl hB hV (show 17 + 4 ≤ 38 by omega)
  obtain ⟨D, hD, e1⟩ := fill_agg (place := pl) (i := 3) (rest := [(4, .int .i64 z)]) rfl hC hU (show 21 + 16 ≤ 38 by omega)
  obtain ⟨E, hE, e2⟩ := fill_int (place := pl) (i := 4) (x := z) (rest := []) rfl hD (show 37 < 38 by omega)
  refine ⟨E, hE.ext fun k hk => ?_, by rw [ht, e0, e, e1, e2]; rfl⟩
  show (if k = 37 then z else over (over (fun j => if j = 16 then L else 0) v 17 4) u 21 16 k) = stF _ _ _ _ _ k
  unfold over stF
  dsimp only
  repeat' split
  all_goals (try dsimp only)
  all_goals (repeat' split)
  all_goals first | rfl | omega
theorem built_5 {t : TypeId} (ht : IsSt t) {M V U : Array Value} {m v u : Nat → Int} (hM : IsRow 16 m M) (L : Int) (hV : IsRow 4 v V) (hU : IsRow 16 u U) (z : Int) : ∃ T, IsRow 38 (stF m L v u z) T ∧ Tryz.prog.built t [(0, .agg M), (1, .int .i64 L), (2, .agg V), (3, .agg U), (4, .int .i64 z)] = some T := by
  obtain ⟨A, hA, ea⟩ := fill_agg (place := pl) (i := 0) (rest := [(1, .int .i64 L), (2, .agg V), (3, .agg U), (4, .int .i64 z)]) rfl (isRow_zero 38) hM (show 0 + 16 ≤ 38 by omega)
  obtain ⟨B, hB, e0⟩ := fill_int (place := pl) (i := 1) (x := L) (rest := [(2, .agg V), (3, .agg U), (4, .int .i64 z)]) rfl hA (show 16 < 38 by omega)
  obtain ⟨C, hC, e⟩ := fill_agg (place := pl) (i := 2) (rest := [(3, .agg U), (4, .int .i64 z)]) rfl hB hV (show 17 + 4 ≤ 38 by omega)
  obtain ⟨D, hD, e1⟩ := fill_agg (place := pl) (i := 3) (rest := [(4, .int .i64 z)]) rfl hC hU (show 21 + 16 ≤ 38 by omega)
  obtain ⟨E, hE, e2⟩ := fill_int (place := pl) (i := 4) (x := z) (rest := []) rfl hD (show 37 < 38 by omega)
  refine ⟨E, hE.ext fun k hk => ?_, by rw [ht, ea, e0, e, e1, e2]; rfl⟩
  show (if k = 37 then z else over (over (fun j => if j = 16 then L else over (fun _ => 0) m 0 16 j) v 17 4) u 21 16 k) = stF _ _ _ _ _ k
  unfold over stF
  dsimp only
  repeat' split
  all_goals (try dsimp only)
  all_goals (repeat' split)
  all_goals first | rfl | omega

/-! States compared. -/
theorem part_row {ty : TypeId} {l n : Nat} {T : Array Value} {d : TypeDesc} (hu : Tryz.prog.underlying ty = some d) (hd : d.isRow = true) (hi : ∀ A : Array Value, A.size = n → (Tryz.prog.info? ty).map (·.size) = some A.size) (w : World) :
    (part ty T l).run Tryz.prog w = .ok (.agg (T.extract l (l + n))) w := by
  have h1 : (sizeOf ty).run Tryz.prog w = .ok n w := by
    have h := hi (Array.replicate n .nilFunc) (by simp)
    rw [Array.size_replicate] at h
    cases hq : Tryz.prog.info? ty with
    | none => rw [hq] at h; cases h
    | some i =>
      rw [hq] at h
      injection h with h
      simp [sizeOf, typeInfo, hq, h]
  have h2 : (isAgg ty).run Tryz.prog w = .ok true w := by
    unfold isAgg
    rw [Sem.run_bind, run_underlying hu w]
    cases d <;> simp_all
  unfold part
  simp only [Sem.run_bind, h2, Result.andThen_ok, h1, if_true, Sem.run_pure]
theorem part_num {T : Array Value} {i : Nat} {x : Int} (h : T[i]? = some (.int .i64 x)) (w : World) : (part 3 T i).run Tryz.prog w = .ok (.int .i64 x) w := by
  have := part_int h w
  rwa [Nat.mul_one] at this

/-- A field of T is what it is. -/
def Fld (d : Nat) (T : Array Value) (f : Field) : Prop := ∀ w, ∃ a, (part f.type T f.offset).run Tryz.prog w = .ok a w ∧ (Op.equalIn d f.type a a).run Tryz.prog w = .ok true w
theorem eq_fields {d : Nat} {T : Array Value} : ∀ fs : List Field, (∀ f ∈ fs, Fld d T f) → ∀ w, (Op.eqFields d T T fs).run Tryz.prog w = .ok true w
  | [], _, w => rfl
  | f :: fs, h, w => by
    obtain ⟨a, h1, h2⟩ := h f (List.mem_cons_self ..) w
    have ih := eq_fields fs (fun f hf => h f (List.mem_cons_of_mem _ hf)) w
    unfold Op.eqFields
    split
    · simp only [Sem.run_bind, h1, h2, Result.andThen_ok]
      exact ih
    · exact ih
theorem fld_row {d : Nat} {T : Array Value} {f : Nat → Int} {ty : TypeId} {l n m : Nat} {nm tg pk : String} {em : Bool} {bo : Nat} (hT : IsRow m f T) (hm : l + n ≤ m) (hu : Tryz.prog.underlying ty = some (.array n 3)) (hi : ∀ A : Array Value, A.size = n → (Tryz.prog.info? ty).map (·.size) = some A.size) :
    Fld (d + 2) T ⟨nm, ty, l, em, tg, pk, bo⟩ := fun w => ⟨_, part_row hu rfl hi w, by
      rw [run_rows (d := d) hu (hT.sub hm) (hT.sub hm) w]
      congr 1
      rw [List.all_eq_true]
      intro i _
      rw [beq_iff_eq]⟩
theorem fld_num {d : Nat} {T : Array Value} {f : Nat → Int} {l m : Nat} {nm tg pk : String} {em : Bool} {bo : Nat} (hT : IsRow m f T) (hm : l < m) :
    Fld (d + 1) T ⟨nm, 3, l, em, tg, pk, bo⟩ := fun w => ⟨_, part_num (hT.2.2 l hm) w, by
      rw [run_equalIn_int w d _ .i64 .i64 _ _ Tryz.underlying3]
      congr 1
      rw [beq_iff_eq]⟩
end Go.Proofs.YtfohinlldchdpaaGreatDoor.Sta
end

section
/- A state's fields in regions that draw their order. -/
set_option maxRecDepth 100000
namespace Go.Proofs.YtfohinlldchdpaaGreatDoor.Sta
open Go.RowKit Go.Proofs.YtfohinlldchdpaaGreatDoor.Row

/-- Field i of the struct t lies o cells behind its begin. -/
def FldAt (t : TypeId) (i o : Nat) : Prop := ∀ b w, (Instr.fieldAt t (.pointer (some ⟨b, 0, none⟩)) i).run Tryz.prog w = .ok (.pointer (some ⟨b, o, none⟩)) w
theorem fld_p0 : FldAt 34 0 0 := fun b w => by
  unfold Instr.fieldAt
  simp [Sem.run_bind, run_underlying Tryz.underlying34, Instr.sureAddr, go_sem, Addr.add]
theorem fld_p1 : FldAt 34 1 16 := fun b w => by
  unfold Instr.fieldAt
  simp [Sem.run_bind, run_underlying Tryz.underlying34, Instr.sureAddr, go_sem, Addr.add]
theorem y_field {ops : Array Oper} {S : World → Prop} {oi : Oper} {a : Act} {t : TypeId} {y : Operand} {b i o : Nat} (hw : Region.wanted oi (yielded ops a.tmps) = true) (ho : oi.op = .fieldAddr t y i) (hy : a.eval y = .pointer (some ⟨b, 0, none⟩)) (hf : FldAt t i o) :
    YieldsIf Tryz.prog ops S oi (.pointer (some ⟨b, o, none⟩)) a :=
  y_run hw fun w => by
    unfold execOp
    simp only [ho, hy, hf b w, Sem.run_bind, Result.andThen_ok, Sem.run_pure]
end Go.Proofs.YtfohinlldchdpaaGreatDoor.Sta
end
