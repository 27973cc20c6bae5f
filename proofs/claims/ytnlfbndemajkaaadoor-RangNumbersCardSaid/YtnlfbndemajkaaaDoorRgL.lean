/- Contract of the laws' cells. -/
import Derived.Test.YtnlfbndemajkaaaDoorRgK
set_option maxRecDepth 100000
set_option linter.unusedVariables false
namespace Go.Proofs.YtnlfbndemajkaaaDoor.Rg
open Go.RowKit Go.Proofs.YtnlfbndemajkaaaDoor.Row

theorem and15 (n : Int) : bits .and .i64 n 32767 = n % 32768 := by
  have e : ((BitVec.ofInt 64 n) &&& (BitVec.ofInt 64 32767)).toNat = (n % 32768).toNat := by
    rw [BitVec.toNat_and, BitVec.toNat_ofInt, BitVec.toNat_ofInt]
    have h2 : ((32767 : Int) % ((2 ^ 64 : Nat) : Int)).toNat = 2 ^ 15 - 1 := by decide +kernel
    rw [h2, Nat.and_two_pow_sub_one_eq_mod]
    have h3 : ((2 ^ 64 : Nat) : Int) = 18446744073709551616 := by decide +kernel
    rw [h3]
    omega
  show IntKind.i64.wrap ((((BitVec.ofInt 64 n) &&& (BitVec.ofInt 64 32767)).toNat : Nat) : Int) = _
  rw [e, IntKind.wrap_i64]
  omega

/-- The cell that the laws make of three numbers. -/
def Tr.cl (x : Tr) : Cl :=
  ⟨(x.s % 32768).toNat % (1 + (x.t % 32768).toNat), 1 + (x.v % 32768).toNat % (1 + (x.t % 32768).toNat - (x.s % 32768).toNat % (1 + (x.t % 32768).toNat)), 1 + (x.t % 32768).toNat⟩
theorem cl_ok (x : Tr) : x.cl.ok := by
  unfold Tr.cl Cl.ok
  dsimp only
  have h1 := Nat.mod_lt (x.s % 32768).toNat (show 1 + (x.t % 32768).toNat > 0 by omega)
  generalize (x.s % 32768).toNat % (1 + (x.t % 32768).toNat) = s at *
  have h2 := Nat.mod_lt (x.v % 32768).toNat (show 1 + (x.t % 32768).toNat - s > 0 by omega)
  generalize (x.v % 32768).toNat % (1 + (x.t % 32768).toNat - s) = v at *
  omega

def cvals (L : List Cl) : List Value := L.flatMap fun c => [.int .i64 c.s, .int .i64 c.w, .int .i64 c.t]
theorem cvals_length : ∀ L : List Cl, (cvals L).length = L.length * 3
  | [] => rfl
  | c :: L => by
    have := cvals_length L
    have e : cvals (c :: L) = [.int .i64 c.s, .int .i64 c.w, .int .i64 c.t] ++ cvals L := rfl
    rw [e, List.length_append, this, List.length_cons]
    simp; omega
theorem cvals_append (L M : List Cl) : cvals (L ++ M) = cvals L ++ cvals M := by unfold cvals; rw [List.flatMap_append]
theorem cvals_get : ∀ (L : List Cl) (i : Nat) (c : Cl), L[i]? = some c → (cvals L)[i * 3]? = some (.int .i64 c.s) ∧ (cvals L)[i * 3 + 1]? = some (.int .i64 c.w) ∧ (cvals L)[i * 3 + 2]? = some (.int .i64 c.t)
  | [], i, c, h => by simp at h
  | d :: L, 0, c, h => by
    have : d = c := by simpa using h
    subst this
    exact ⟨rfl, rfl, rfl⟩
  | d :: L, i + 1, c, h => by
    obtain ⟨h1, h2, h3⟩ := cvals_get L i c (by simpa using h)
    have e : cvals (d :: L) = [.int .i64 d.s, .int .i64 d.w, .int .i64 d.t] ++ cvals L := rfl
    rw [e]
    refine ⟨?_, ?_, ?_⟩
    · rw [List.getElem?_append_right (by simp; omega), show (i + 1) * 3 - [Value.int .i64 d.s, .int .i64 d.w, .int .i64 d.t].length = i * 3 by simp; omega]; exact h1
    · rw [List.getElem?_append_right (by simp; omega), show (i + 1) * 3 + 1 - [Value.int .i64 d.s, .int .i64 d.w, .int .i64 d.t].length = i * 3 + 1 by simp; omega]; exact h2
    · rw [List.getElem?_append_right (by simp; omega), show (i + 1) * 3 + 2 - [Value.int .i64 d.s, .int .i64 d.w, .int .i64 d.t].length = i * 3 + 2 by simp; omega]; exact h3

/-- A slice of its own: the cells L. -/
def Cls (w : World) (B : Nat) (a : Option Addr) (n c : Nat) (L : List Cl) : Prop := L.length = n ∧ w.ownsRow B 32 3 (.slice a n c) n (cvals L)
theorem Cls.nil (w : World) (B : Nat) : Cls w B none 0 0 [] := ⟨rfl, rfl, .inl ⟨rfl, rfl⟩⟩
theorem Cls.below {w w' : World} {B n c : Nat} {a : Option Addr} {L : List Cl} (h : Cls w B a n c L) (hb : Below w.heap.size w w') : Cls w' B a n c L := ⟨h.1, owns_below h.2 hb⟩
theorem Cls.addr {w : World} {B n c : Nat} {a : Option Addr} {L : List Cl} (h : Cls w B a n c L) (hn : 0 < n) : ∃ g, a = some ⟨g, 0, none⟩ ∧ B ≤ g := by
  obtain ⟨_, h1, h2 | ⟨g', cap, cur, e1, h3, h4, _⟩⟩ := h
  · have := h2.2; omega
  · simp only [Value.slice.injEq] at e1
    exact ⟨g', e1.1, h3⟩
theorem Cls.at {w : World} {B n c g i : Nat} {L : List Cl} {C : Cl} (h : Cls w B (some ⟨g, 0, none⟩) n c L) (hi : L[i]? = some C) :
    w.cell? ⟨g, i * 3, none⟩ = some (.int .i64 C.s) ∧ w.cell? ⟨g, i * 3 + 1, none⟩ = some (.int .i64 C.w) ∧ w.cell? ⟨g, i * 3 + 2, none⟩ = some (.int .i64 C.t) := by
  obtain ⟨h1, h2, h3⟩ := cvals_get L i C hi
  have key : ∀ (j : Nat) (v : Value), (cvals L)[j]? = some v → w.cell? ⟨g, j, none⟩ = some v := fun j v hv => by
    have := World.ownsRow.cells h.2 (g := g) rfl j v hv
    rw [Go.WideShapes.add_plain, Nat.zero_add] at this
    exact this
  exact ⟨key _ _ h1, key _ _ h2, key _ _ h3⟩

theorem info_cell : ∃ i, Tryd.prog.info? 32 = some i ∧ i.zero = some (.agg #[.int .i64 0, .int .i64 0, .int .i64 0]) ∧ i.size = 3 ∧ i.bytes = 24 := info_parts (by kernel_rfl)

/-- 'p = append(p, y)', one cell. -/
theorem wpList_append_cell {ops : Array Oper} {rest : List Oper} {o : Oper} {a : Act} {w : World} {Q : Exit → Act → World → Prop} (hgd : o.guard = none) (s x : Operand)
    (ho : o.op = .call { callee := .builtin .append, args := #[s, x], argTypes := #[22, 22] })
    (B : Nat) (L : List Cl) (y : Cl) (ao : Option Addr) (n c : Nat) (hs : a.eval s = .slice ao n c) (hown : Cls w B ao n c L)
    (b : Nat) (hx : a.eval x = .slice (some ⟨b, 0, none⟩) 1 1) (hnew : At w b #[.int .i64 y.s, .int .i64 y.w, .int .i64 y.t] 32) (hn : n + 1 ≤ 1000000) (hB : B ≤ w.heap.size)
    (h : ∀ a' c' w', Cls w' B a' (n + 1) c' (L ++ [y]) → Below B w w' → w.grownBy w' (Value.slice ao n c).ownBlock → wpList Tryd.prog ops Q rest (a.put o.dst (.slice a' (n + 1) c')) w') : wpList Tryd.prog ops Q (o :: rest) a w := by
  obtain ⟨i, hi, hz, hsz, hby⟩ := info_cell
  have e1 : cvals [y] = [.int .i64 y.s, .int .i64 y.w, .int .i64 y.t] := rfl
  refine wpList_append_own_at w hgd s x 22 ho B 32 i _ 3 24 Tryd.underlying22 hi hz hsz hby rfl (by decide) (.slice ao n c) n (cvals L) hs hown.2 ⟨b, 0, none⟩ 1 1 (cvals [y]) hx rfl ?_ ?_ (by unfold maxLen; omega) (by omega) hB ?_
  · intro j u hj
    rw [Go.WideShapes.add_plain, Nat.zero_add, hnew.cell]
    rw [e1] at hj
    simpa using hj
  · intro u hu
    rw [e1] at hu
    simp at hu
    rcases hu with rfl | rfl | rfl <;> rfl
  · intro v' w' hown' hg _ hat
    rw [← cvals_append] at hown'
    obtain ⟨_, h2⟩ := id hown'
    rcases h2 with ⟨_, h0⟩ | ⟨g, c', cur, rfl, _⟩
    · omega
    · refine h _ c' w' ⟨by rw [List.length_append, hown.1]; rfl, hown'⟩ ((Below.refl B w).grown hg hB fun k hk => ?_) hg
      rcases hown.2.2 with ⟨h3, _⟩ | ⟨g3, _, _, h3, h4, _⟩
      · rw [h3] at hk; cases hk
      · rw [h3] at hk
        simp only [Value.ownBlock, Option.some.injEq] at hk
        omega

/-- The cells that the laws make of a list. -/
def cellsOf (f : Nat → Tr) (n : Nat) : List Cl := (List.range (min n 100)).map fun i => (f i).cl
theorem cellsOf_length (f : Nat → Tr) (n : Nat) : (cellsOf f n).length = min n 100 := by unfold cellsOf; simp
theorem cellsOf_ok (f : Nat → Tr) (n : Nat) : ∀ C ∈ cellsOf f n, C.ok := by
  intro C hC
  unfold cellsOf at hC
  obtain ⟨i, _, rfl⟩ := List.mem_map.1 hC
  exact cl_ok _
def RetCls (w : World) (L : List Cl) (e : Ending) (w' : World) : Prop := ∃ a c, e = .returned (.slice a L.length c) ∧ Cls w' w.heap.size a L.length c L ∧ Below w.heap.size w w'

theorem cl_parts (x : Tr) : ∃ t s d r : Int, 1 + x.t % 32768 = t ∧ (x.s % 32768) % t = s ∧ t - s = d ∧ (x.v % 32768) % d = r ∧ (x.cl.t : Int) = t ∧ (x.cl.s : Int) = s ∧ (x.cl.w : Int) = 1 + r ∧ 1 ≤ t ∧ t ≤ 32768 ∧ 0 ≤ s ∧ s ≤ 32767 ∧ 1 ≤ d ∧ d ≤ 32768 ∧ 0 ≤ r ∧ r ≤ 32767 := by
  refine ⟨_, _, _, _, rfl, rfl, rfl, rfl, ?_⟩
  have a1 : ((x.t % 32768).toNat : Int) = x.t % 32768 := by omega
  have a2 : ((x.s % 32768).toNat : Int) = x.s % 32768 := by omega
  have a3 : ((x.v % 32768).toNat : Int) = x.v % 32768 := by omega
  have b1 : 0 ≤ x.t % 32768 ∧ x.t % 32768 < 32768 := by omega
  have b2 : 0 ≤ x.s % 32768 ∧ x.s % 32768 < 32768 := by omega
  have b3 : 0 ≤ x.v % 32768 ∧ x.v % 32768 < 32768 := by omega
  obtain ⟨T, hT⟩ : ∃ T, x.t % 32768 = T := ⟨_, rfl⟩
  obtain ⟨S, hS⟩ : ∃ S, x.s % 32768 = S := ⟨_, rfl⟩
  obtain ⟨V, hV⟩ : ∃ V, x.v % 32768 = V := ⟨_, rfl⟩
  have ok := cl_ok x
  have e3 : (x.cl.t : Int) = 1 + T := by unfold Tr.cl; dsimp only; rw [hT] at a1 ⊢; omega
  have e1 : (x.cl.s : Int) = S % (1 + T) := by
    unfold Tr.cl; dsimp only
    rw [Int.natCast_emod, hS, hT, show ((S.toNat : Nat) : Int) = S by omega, show ((1 + T.toNat : Nat) : Int) = 1 + T by omega]
  have e2 : (x.cl.w : Int) = 1 + V % (1 + T - S % (1 + T)) := by
    have e1' := e1
    have hlt : x.cl.s ≤ x.cl.t := by have := ok.2.2.2; omega
    have e4 : x.cl.w = 1 + (x.v % 32768).toNat % (x.cl.t - x.cl.s) := rfl
    rw [e4, Int.natCast_add, Int.natCast_emod, a3, hV, Int.natCast_sub hlt, e3, e1]
    rfl
  obtain ⟨o1, o2, o3, o4⟩ := ok
  rw [hT, hS, hV] at *
  have p1 := Int.emod_nonneg V (show 1 + T - S % (1 + T) ≠ 0 by omega)
  have p2 := Int.emod_lt_of_pos V (show 0 < 1 + T - S % (1 + T) by omega)
  exact ⟨e3, e1, e2, by omega, by omega, by omega, by omega, by omega, by omega, by omega, by omega⟩
end Go.Proofs.YtnlfbndemajkaaaDoor.Rg
