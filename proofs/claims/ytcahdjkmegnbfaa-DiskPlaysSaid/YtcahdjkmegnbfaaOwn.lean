/- Slices of integers that a function appends to: what they hold, one number more, what they are to a callee. -/
import Derived.Test.YtcahdjkmegnbfaaSli
import Derived.OwnWalk
import Derived.Maps.AppendAt
set_option maxRecDepth 100000
namespace Go.Proofs.Ytcahdjkmegnbfaa.Row
open Go.RowKit

/-- Block g is the function's own row of c cells, of which the first n are f's. -/
def OwnG (w : World) (B g c n : Nat) (f : Nat → Int) : Prop := B ≤ g ∧ n ≤ c ∧ c ≤ maxLen ∧ ∃ cur : Array Value, At w g cur 3 ∧ cur.size = c ∧ ∀ i, i < n → cur[i]? = some (.int .i64 (f i))
/-- A slice of its own: nil as long as nothing is in it. -/
def OwnS (w : World) (B : Nat) (a : Option Addr) (n c : Nat) (f : Nat → Int) : Prop := (a = none ∧ n = 0 ∧ c = 0) ∨ ∃ g, a = some ⟨g, 0, none⟩ ∧ OwnG w B g c n f

theorem OwnG.cell {w : World} {B g c n : Nat} {f : Nat → Int} (h : OwnG w B g c n f) (i : Nat) (hi : i < n) : w.cell? ⟨g, i, none⟩ = some (.int .i64 (f i)) := by
  obtain ⟨_, _, _, cur, hA, _, hc⟩ := h
  rw [cell_of_row _ _ i _ _ _ hA, hc i hi]
theorem OwnG.lt {w : World} {B g c n : Nat} {f : Nat → Int} (h : OwnG w B g c n f) : g < w.heap.size := by
  obtain ⟨_, _, _, cur, hA, _, _⟩ := h
  exact hA.lt
theorem OwnG.frozen {w : World} {B g c n : Nat} {f : Nat → Int} (h : OwnG w B g c n f) (i : Nat) : w.frozen? ⟨g, i, none⟩ = false := by
  obtain ⟨_, _, _, cur, hA, _, _⟩ := h
  exact hA.frozen i
theorem OwnG.below {w w' : World} {B g c n : Nat} {f : Nat → Int} (h : OwnG w B g c n f) (hb : Below w.heap.size w w') : OwnG w' B g c n f := by
  obtain ⟨h1, h2, h3, cur, hA, h4, h5⟩ := h
  exact ⟨h1, h2, h3, cur, hA.below hb hA.lt, h4, h5⟩
theorem OwnG.drewN {w : World} {B g c n : Nat} {f : Nat → Int} (h : OwnG w B g c n f) (k : Nat) : OwnG (w.drewN k) B g c n f := h
theorem OwnG.ext {w : World} {B g c n : Nat} {f f' : Nat → Int} (h : OwnG w B g c n f) (e : ∀ i, i < n → f i = f' i) : OwnG w B g c n f' := by
  obtain ⟨h1, h2, h3, cur, hA, h4, h5⟩ := h
  exact ⟨h1, h2, h3, cur, hA, h4, fun i hi => by rw [← e i hi]; exact h5 i hi⟩
theorem OwnS.nil (w : World) (B : Nat) (f : Nat → Int) : OwnS w B none 0 0 f := .inl ⟨rfl, rfl, rfl⟩
theorem OwnS.below {w w' : World} {B n c : Nat} {a : Option Addr} {f : Nat → Int} (h : OwnS w B a n c f) (hb : Below w.heap.size w w') : OwnS w' B a n c f := by
  rcases h with h | ⟨g, e, h⟩
  · exact .inl h
  · exact .inr ⟨g, e, h.below hb⟩
theorem OwnS.pos {w : World} {B n c : Nat} {a : Option Addr} {f : Nat → Int} (h : OwnS w B a n c f) (hn : 0 < n) : ∃ g, a = some ⟨g, 0, none⟩ ∧ OwnG w B g c n f := by
  rcases h with ⟨_, h, _⟩ | h
  · omega
  · exact h
theorem OwnG.sl {w : World} {B g c n : Nat} {f : Nat → Int} (h : OwnG w B g c n f) : Sl .i64 w (some ⟨g, 0, none⟩) n c f :=
  ⟨h.2.1, h.2.2.1, fun _ => ⟨g, 0, rfl, fun i hi => by rw [Nat.zero_add]; exact h.cell i hi⟩⟩
theorem OwnS.sl {w : World} {B n c : Nat} {a : Option Addr} {f : Nat → Int} (h : OwnS w B a n c f) : Sl .i64 w a n c f := by
  rcases h with ⟨rfl, rfl, rfl⟩ | ⟨g, rfl, h⟩
  · exact ⟨Nat.le_refl _, Nat.zero_le _, fun h => absurd h (Nat.lt_irrefl _)⟩
  · exact h.sl

def intsL (f : Nat → Int) (n : Nat) : List Value := (List.range n).map fun i => .int .i64 (f i)
theorem intsL_length (f : Nat → Int) (n : Nat) : (intsL f n).length = n := by unfold intsL; simp
theorem intsL_get (f : Nat → Int) (n i : Nat) (hi : i < n) : (intsL f n)[i]? = some (.int .i64 (f i)) := by unfold intsL; simp [hi]
theorem intsL_next (f : Nat → Int) (n : Nat) : intsL f n ++ [.int .i64 (f n)] = intsL f (n + 1) := by unfold intsL; rw [List.range_succ, List.map_append]; rfl

theorem OwnS.owns {w : World} {B n c : Nat} {a : Option Addr} {f : Nat → Int} (h : OwnS w B a n c f) : w.ownsRow B 3 1 (.slice a n c) n (intsL f n) := by
  refine ⟨by rw [intsL_length]; omega, ?_⟩
  rcases h with ⟨rfl, rfl, rfl⟩ | ⟨g, rfl, h1, h2, h3, cur, hA, h4, h5⟩
  · exact .inl ⟨rfl, rfl⟩
  · refine .inr ⟨g, c, cur, rfl, h1, hA, h2, h3, by omega, ?_⟩
    apply List.ext_getElem?
    intro i
    rw [Nat.mul_one]
    by_cases hi : i < n
    · rw [intsL_get f n i hi, List.getElem?_take_of_lt hi, Array.getElem?_toList, h5 i hi]
    · rw [List.getElem?_eq_none (l := List.take n cur.toList) (by rw [List.length_take]; omega), List.getElem?_eq_none (l := intsL f n) (by rw [intsL_length]; omega)]

theorem own_of {w : World} {B n : Nat} {v : Value} {f : Nat → Int} (h : w.ownsRow B 3 1 v n (intsL f n)) (hn : 0 < n) : ∃ g c, v = .slice (some ⟨g, 0, none⟩) n c ∧ OwnG w B g c n f := by
  obtain ⟨_, ⟨_, h0⟩ | ⟨g, c, cur, e, h1, hA, h2, h3, h4, h5⟩⟩ := h
  · omega
  · refine ⟨g, c, e, h1, h2, h3, cur, hA, by omega, fun i hi => ?_⟩
    have := intsL_get f n i hi
    rw [← h5, Nat.mul_one, List.getElem?_take_of_lt hi, Array.getElem?_toList] at this
    exact this

theorem own_block_ge {w : World} {B n c : Nat} {a : Option Addr} {f : Nat → Int} (h : OwnS w B a n c f) (k : Nat) (hk : (Value.slice a n c).ownBlock = some k) : B ≤ k := by
  rcases h with ⟨rfl, _, _⟩ | ⟨g, rfl, h1, _⟩
  · cases hk
  · simp [Value.ownBlock] at hk; omega

theorem info_int3 : ∃ i, Try.prog.info? 3 = some i ∧ i.zero = some (.int .i64 0) ∧ i.size = 1 ∧ i.bytes = 8 := by
  obtain ⟨i, hi, hzz⟩ := Option.map_eq_some_iff.1 info_int
  simp only [Prod.mk.injEq] at hzz
  exact ⟨i, hi, hzz.1, hzz.2.1, hzz.2.2⟩

/-- 'p = append(p, x)', one number: the new slice's shape, what it holds, and that nothing below B is changed. -/
theorem wpList_append_one {ops : Array Oper} {rest : List Oper} {o : Oper} {a : Act} {w : World} {Q : Exit → Act → World → Prop} (hgd : o.guard = none) (s x : Operand)
    (ho : o.op = .call { callee := .builtin .append, args := #[s, x], argTypes := #[31, 31] })
    (B : Nat) (f : Nat → Int) (ao : Option Addr) (n c : Nat) (hs : a.eval s = .slice ao n c) (hown : OwnS w B ao n c f) (b : Nat) (hx : a.eval x = .slice (some ⟨b, 0, none⟩) 1 1) (hnew : w.cell? ⟨b, 0, none⟩ = some (.int .i64 (f n)))
    (hn : n + 1 ≤ 1000000000) (hB : B ≤ w.heap.size)
    (h : ∀ g c' w', OwnG w' B g c' (n + 1) f → Below B w w' → w.grownBy w' (Value.slice ao n c).ownBlock → (ao = some ⟨g, 0, none⟩ ∨ g = w.heap.size) → wpList Try.prog ops Q rest (a.put o.dst (.slice (some ⟨g, 0, none⟩) (n + 1) c')) w') : wpList Try.prog ops Q (o :: rest) a w := by
  obtain ⟨i, hi, hz, hsz, hby⟩ := info_int3
  refine wpList_append_own_at w hgd s x 31 ho B 3 i (.int .i64 0) 1 8 Try.underlying31 hi hz hsz hby rfl (by decide) (.slice ao n c) n (intsL f n) hs hown.owns ⟨b, 0, none⟩ 1 1 [.int .i64 (f n)] hx rfl ?_ ?_ (by unfold maxLen; omega) (by omega) hB ?_
  · intro j u hj
    match j, hj with
    | 0, hj => simp at hj; subst hj; simpa [Addr.add] using hnew
  · intro u hu; simp at hu; subst hu; rfl
  · intro v' w' hown' hg _ hat
    rw [intsL_next] at hown'
    obtain ⟨g, c', rfl, hG⟩ := own_of hown' (by omega)
    refine h g c' w' hG ((Below.refl B w).grown hg hB fun k hk => own_block_ge hown k hk) hg ?_
    rcases hat with e | e
    · rcases hown with ⟨rfl, _, _⟩ | ⟨g0, rfl, _⟩
      · cases e
      · simp only [Value.ownBlock, Option.some.injEq] at e
        exact .inl (by rw [e])
    · simp only [Value.ownBlock, Option.some.injEq] at e
      exact .inr e

/-- Two own slices that have no block in common. -/
def Dis (a q : Option Addr) : Prop := ∀ g, a = some ⟨g, 0, none⟩ → q ≠ some ⟨g, 0, none⟩
theorem Dis.symm {a q : Option Addr} (h : Dis a q) : Dis q a := fun g e e' => h g e' e
theorem dis_nil (q : Option Addr) : Dis none q := fun _ e => by cases e
theorem Dis.new {w : World} {B n c g : Nat} {a q : Option Addr} {f : Nat → Int} (hd : Dis a q) (h : OwnS w B q n c f) (hat : a = some ⟨g, 0, none⟩ ∨ g = w.heap.size) : Dis (some ⟨g, 0, none⟩) q := by
  intro g' e e'
  have e : g = g' := by injection e with e; injection e
  subst e
  rcases hat with hat | hat
  · exact hd g hat e'
  · rcases h with ⟨rfl, _, _⟩ | ⟨g2, rfl, h⟩
    · cases e'
    · have e' : g2 = g := by injection e' with e'; injection e'
      have := h.lt
      omega
theorem OwnS.kept {w w' : World} {B n c m d : Nat} {a q : Option Addr} {f : Nat → Int} (h : OwnS w B q n c f) (hg : w.grownBy w' (Value.slice a m d).ownBlock) (ha : ∀ g, a = some g → g.off = 0 ∧ g.spot = none) (hd : Dis a q) : OwnS w' B q n c f := by
  rcases h with h | ⟨g, rfl, h1, h2, h3, cur, hA, h4, h5⟩
  · exact .inl h
  · refine .inr ⟨g, rfl, h1, h2, h3, cur, ?_, h4, h5⟩
    have hlt := hA.lt
    refine (hg.block g hlt fun e => ?_).trans hA
    cases a with
    | none => cases e
    | some x =>
      obtain ⟨xb, xo, xs⟩ := x
      obtain ⟨e1, e2⟩ := ha _ rfl
      dsimp only at e1 e2
      subst e1 e2
      simp only [Value.ownBlock, Option.some.injEq] at e
      subst e
      exact hd _ rfl rfl
theorem OwnS.head {w : World} {B n c : Nat} {a : Option Addr} {f : Nat → Int} (h : OwnS w B a n c f) : ∀ g, a = some g → g.off = 0 ∧ g.spot = none := by
  rcases h with ⟨rfl, _, _⟩ | ⟨g, rfl, _⟩
  · intro g e; cases e
  · intro g' e; injection e with e; subst e; exact ⟨rfl, rfl⟩
end Go.Proofs.Ytcahdjkmegnbfaa.Row
