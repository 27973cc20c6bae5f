/- PaMath: a page's 64 bytes (mathematics of layer 17). -/
import Derived.Test.YtmaelcjmojhlpaaCrFm
namespace Go.Proofs.Ytmaelcjmojhlpaa.Pa
open Go.Proofs.Ytmaelcjmojhlpaa.Crc
set_option linter.unusedVariables false

/-- A page. -/
structure Pv where
  e : Nat
  n : Nat
  k : Int
  f : Bool
  l : Bool
  d : List UInt8

def Pv.zero : Pv := ⟨0, 0, 0, false, false, []⟩
def Pv.Ok (p : Pv) : Prop := p.e < 4294967296 ∧ p.n < 4294967296
def Pv.right (p : Pv) : Prop := 1 ≤ p.d.length ∧ p.d.length ≤ 49 ∧ (p.k = 2 ∨ p.k = 1 ∧ p.f = false ∧ p.l = false)
instance (p : Pv) : Decidable p.right := by unfold Pv.right; infer_instance
/-- Its marks. -/
def Pv.m (p : Pv) : Nat := (if p.f then 1 else 0) + (if p.l then 2 else 0)
/-- Its bytes behind the sum, and all. -/
def Pv.body (p : Pv) : List UInt8 := fourL p.e ++ (fourL p.n ++ (UInt8.ofNat p.k.toNat :: UInt8.ofNat p.m :: UInt8.ofNat p.d.length :: (p.d ++ List.replicate (49 - p.d.length) 0)))
def Pv.lay (p : Pv) : List UInt8 := fourL (moreS 0 p.body) ++ p.body

/-- A byte; four bytes' number. -/
def B (b : List UInt8) (i : Nat) : Nat := (b.getD i 0).toNat
def fo (b : List UInt8) (i : Nat) : Nat := B b i + 256 * B b (i + 1) + 65536 * B b (i + 2) + 16777216 * B b (i + 3)
def SumOk (b : List UInt8) : Prop := fo b 0 = moreS 0 (b.drop 4)
def FormOk (b : List UInt8) : Prop := 1 ≤ B b 12 ∧ B b 12 ≤ 2 ∧ B b 13 ≤ 3 ∧ (B b 12 = 1 → B b 13 = 0) ∧ 1 ≤ B b 14 ∧ B b 14 ≤ 49 ∧ ∀ i, 15 + B b 14 ≤ i → i < 64 → B b i = 0
/-- The page of bytes. -/
def pg (b : List UInt8) : Pv := ⟨fo b 4, fo b 8, (B b 12 : Nat), decide (B b 13 % 2 = 1), decide (2 ≤ B b 13), (b.drop 15).take (B b 14)⟩

theorem B_lt (b : List UInt8) (i : Nat) : B b i < 256 := (b.getD i 0).toNat_lt
theorem fo_lt (b : List UInt8) (i : Nat) : fo b i < 4294967296 := by
  unfold fo
  have h0 := B_lt b i
  have h1 := B_lt b (i + 1)
  have h2 := B_lt b (i + 2)
  have h3 := B_lt b (i + 3)
  omega

theorem Pv.body_length {p : Pv} (h : p.right) : p.body.length = 60 := by
  unfold Pv.body
  simp only [List.length_append, List.length_cons, List.length_replicate, fourL_length]
  have := h.2.1
  omega
theorem Pv.lay_length {p : Pv} (h : p.right) : p.lay.length = 64 := by
  unfold Pv.lay
  rw [List.length_append, fourL_length, Pv.body_length h]

/-- Four bytes and their number, there and back. -/
theorem four_of (a b c d : UInt8) : fourL (a.toNat + 256 * b.toNat + 65536 * c.toNat + 16777216 * d.toNat) = [a, b, c, d] := by
  have ha := a.toNat_lt
  have hb := b.toNat_lt
  have hc := c.toNat_lt
  have hd := d.toNat_lt
  unfold fourL
  have e0 : (a.toNat + 256 * b.toNat + 65536 * c.toNat + 16777216 * d.toNat) % 256 = a.toNat := by omega
  have e1 : (a.toNat + 256 * b.toNat + 65536 * c.toNat + 16777216 * d.toNat) / 256 % 256 = b.toNat := by omega
  have e2 : (a.toNat + 256 * b.toNat + 65536 * c.toNat + 16777216 * d.toNat) / 65536 % 256 = c.toNat := by omega
  have e3 : (a.toNat + 256 * b.toNat + 65536 * c.toNat + 16777216 * d.toNat) / 16777216 % 256 = d.toNat := by omega
  rw [e0, e1, e2, e3]
  simp only [UInt8.ofNat_toNat]

theorem of_four (x : Nat) (h : x < 4294967296) (l : List UInt8) : fo (fourL x ++ l) 0 = x := by
  show (UInt8.ofNat (x % 256)).toNat + 256 * (UInt8.ofNat (x / 256 % 256)).toNat + 65536 * (UInt8.ofNat (x / 65536 % 256)).toNat + 16777216 * (UInt8.ofNat (x / 16777216 % 256)).toNat = x
  rw [ofNat_toNat _ (Nat.mod_lt _ (by omega)), ofNat_toNat _ (Nat.mod_lt _ (by omega)), ofNat_toNat _ (Nat.mod_lt _ (by omega)), ofNat_toNat _ (Nat.mod_lt _ (by omega))]
  omega

theorem fourL_inj {x y : Nat} (hx : x < 4294967296) (hy : y < 4294967296) (h : fourL x = fourL y) : x = y := by
  have a := of_four x hx []
  have b := of_four y hy []
  rw [h] at a
  exact a.symm.trans b

theorem gd_app (l m : List UInt8) (i j : Nat) (h : l.length + j = i) : (l ++ m).getD i 0 = m.getD j 0 := by
  subst h
  rw [List.getD_eq_getElem?_getD, List.getD_eq_getElem?_getD, List.getElem?_append_right (by omega), show l.length + j - l.length = j from by omega]
theorem gd_get (l : List UInt8) (i : Nat) (h : i < l.length) : l.getD i 0 = l[i] := by
  rw [List.getD_eq_getElem?_getD, List.getElem?_eq_getElem h]; rfl
theorem B_append (l m : List UInt8) (i j : Nat) (h : l.length + j = i) : B (l ++ m) i = B m j := by
  unfold B
  rw [gd_app l m i j h]
theorem fo_append (l m : List UInt8) (i j : Nat) (h : l.length + j = i) : fo (l ++ m) i = fo m j := by
  unfold fo
  rw [B_append l m i j h, B_append l m (i + 1) (j + 1) (by omega), B_append l m (i + 2) (j + 2) (by omega), B_append l m (i + 3) (j + 3) (by omega)]

theorem Pv.m_lt (p : Pv) : p.m ≤ 3 := by
  unfold Pv.m
  split <;> split <;> omega

/-- What stands behind the two numbers. -/
def Pv.tail (p : Pv) : List UInt8 := UInt8.ofNat p.k.toNat :: UInt8.ofNat p.m :: UInt8.ofNat p.d.length :: (p.d ++ List.replicate (49 - p.d.length) 0)
theorem Pv.lay_eq (p : Pv) : p.lay = fourL (moreS 0 p.body) ++ (fourL p.e ++ (fourL p.n ++ p.tail)) := rfl
theorem Pv.lay_tail (p : Pv) (i j : Nat) (h : 12 + j = i) : B p.lay i = B p.tail j := by
  rw [p.lay_eq, B_append _ _ i (8 + j) (by rw [fourL_length]; omega), B_append _ _ (8 + j) (4 + j) (by rw [fourL_length]; omega), B_append _ _ (4 + j) j (by rw [fourL_length])]
theorem Pv.lay_12 {p : Pv} (h : p.right) : (B p.lay 12 : Int) = p.k := by
  rw [p.lay_tail 12 0 rfl]
  show (((UInt8.ofNat p.k.toNat).toNat : Nat) : Int) = p.k
  have hk : p.k = 2 ∨ p.k = 1 := h.2.2.imp id fun h => h.1
  rw [ofNat_toNat _ (by omega)]
  omega
theorem Pv.lay_13 (p : Pv) : B p.lay 13 = p.m := by
  rw [p.lay_tail 13 1 rfl]
  have := p.m_lt
  exact ofNat_toNat _ (by omega)
theorem Pv.lay_14 {p : Pv} (h : p.right) : B p.lay 14 = p.d.length := by
  rw [p.lay_tail 14 2 rfl]
  have := h.2.1
  exact ofNat_toNat _ (by omega)
theorem Pv.lay_drop (p : Pv) : p.lay.drop 15 = p.d ++ List.replicate (49 - p.d.length) 0 := rfl

theorem sum_lay {p : Pv} : SumOk p.lay := by
  show fo (fourL (moreS 0 p.body) ++ p.body) 0 = moreS 0 p.body
  exact of_four _ (moreS_lt _ _) _
theorem form_lay {p : Pv} (h : p.right) : FormOk p.lay := by
  have h12 := Pv.lay_12 h
  have h13 := p.lay_13
  have h14 := Pv.lay_14 h
  have hm := p.m_lt
  obtain ⟨r1, r2, r3⟩ := h
  have hk : p.k = 2 ∨ p.k = 1 := r3.imp id fun h => h.1
  refine ⟨by omega, by omega, by omega, ?_, by omega, by omega, ?_⟩
  · intro h1
    rcases r3 with r3 | ⟨r3, r4, r5⟩
    · omega
    · rw [h13]
      unfold Pv.m
      rw [r4, r5]; rfl
  · intro i hi h64
    rw [h14] at hi
    rw [p.lay_tail i (i - 12) (by omega)]
    unfold B Pv.tail
    obtain ⟨j, rfl⟩ : ∃ j, i = 15 + p.d.length + j := ⟨i - 15 - p.d.length, by omega⟩
    rw [show 15 + p.d.length + j - 12 = (p.d.length + j) + 1 + 1 + 1 from by omega]
    simp only [List.getD_cons_succ]
    rw [gd_app _ _ _ j rfl, List.getD_eq_getElem?_getD, List.getElem?_replicate]
    split <;> rfl
theorem pg_lay {p : Pv} (h : p.right) (ho : p.Ok) : pg p.lay = p := by
  have h12 := Pv.lay_12 h
  have h13 := p.lay_13
  have h14 := Pv.lay_14 h
  have e4 : fo p.lay 4 = p.e := by
    rw [p.lay_eq, fo_append _ _ 4 0 (by rw [fourL_length]), of_four _ ho.1]
  have e8 : fo p.lay 8 = p.n := by
    rw [p.lay_eq, fo_append _ _ 8 4 (by rw [fourL_length]), fo_append _ _ 4 0 (by rw [fourL_length]), of_four _ ho.2]
  unfold pg
  rw [e4, e8, h12, h13, h14, p.lay_drop, List.take_left' rfl]
  obtain ⟨e, n, k, f, l, d⟩ := p
  cases f <;> cases l <;> simp [Pv.m]

/-- Bytes that are read are what is laid. -/
theorem pg_right {b : List UInt8} (hb : b.length = 64) (h : FormOk b) : (pg b).right ∧ (pg b).Ok := by
  obtain ⟨h1, h2, h3, h4, h5, h6, h7⟩ := h
  have hl : (pg b).d.length = B b 14 := by
    show ((b.drop 15).take (B b 14)).length = _
    rw [List.length_take, List.length_drop, hb]
    omega
  refine ⟨⟨by omega, by omega, ?_⟩, fo_lt _ _, fo_lt _ _⟩
  show ((B b 12 : Nat) : Int) = 2 ∨ ((B b 12 : Nat) : Int) = 1 ∧ decide (B b 13 % 2 = 1) = false ∧ decide (2 ≤ B b 13) = false
  by_cases hk : B b 12 = 1
  · have := h4 hk
    exact .inr ⟨by omega, decide_eq_false (by omega), decide_eq_false (by omega)⟩
  · exact .inl (by omega)
theorem lay_pg {b : List UInt8} (hb : b.length = 64) (hs : SumOk b) (h : FormOk b) : (pg b).lay = b := by
  obtain ⟨h1, h2, h3, h4, h5, h6, h7⟩ := h
  have hl : (pg b).d.length = B b 14 := by
    show ((b.drop 15).take (B b 14)).length = _
    rw [List.length_take, List.length_drop, hb]
    omega
  have hm : (pg b).m = B b 13 := by
    show (if decide (B b 13 % 2 = 1) = true then 1 else 0) + (if decide (2 ≤ B b 13) = true then 2 else 0) = B b 13
    simp only [decide_eq_true_eq]
    split <;> split <;> omega
  have hrest : (pg b).d ++ List.replicate (49 - B b 14) 0 = b.drop 15 := by
    show (b.drop 15).take (B b 14) ++ _ = _
    conv => rhs; rw [← List.take_append_drop (B b 14) (b.drop 15)]
    congr 1
    rw [List.drop_drop]
    apply List.ext_getElem
    · rw [List.length_replicate, List.length_drop, hb]; omega
    · intro i a1 a2
      rw [List.length_replicate] at a1
      rw [List.getElem_replicate, List.getElem_drop]
      have hx : 15 + B b 14 + i < b.length := by omega
      have this : (b[15 + B b 14 + i]).toNat = 0 := by rw [← gd_get b _ hx]; exact h7 _ (by omega) (by omega)
      exact (UInt8.toNat_inj.1 (this.trans rfl)).symm
  have hbody : (pg b).body = b.drop 4 := by
    unfold Pv.body
    rw [hm, hl, hrest]
    show fourL (fo b 4) ++ (fourL (fo b 8) ++ (UInt8.ofNat ((B b 12 : Nat) : Int).toNat :: UInt8.ofNat (B b 13) :: UInt8.ofNat (B b 14) :: b.drop 15)) = b.drop 4
    clear hrest hm hl h7 hs
    clear h1 h2 h3 h4 h5 h6
    match b, hb with
    | a0 :: a1 :: a2 :: a3 :: a4 :: a5 :: a6 :: a7 :: a8 :: a9 :: a10 :: a11 :: a12 :: a13 :: a14 :: r, _ =>
      show fourL (a4.toNat + 256 * a5.toNat + 65536 * a6.toNat + 16777216 * a7.toNat) ++ (fourL (a8.toNat + 256 * a9.toNat + 65536 * a10.toNat + 16777216 * a11.toNat) ++ (UInt8.ofNat ((a12.toNat : Nat) : Int).toNat :: UInt8.ofNat a13.toNat :: UInt8.ofNat a14.toNat :: r)) = _
      rw [four_of, four_of, Int.toNat_natCast]
      simp only [UInt8.ofNat_toNat]
      rfl
  unfold Pv.lay
  rw [hbody, ← (show fo b 0 = _ from hs)]
  clear hs h7 hbody hrest hm hl
  match b, hb with
  | a0 :: a1 :: a2 :: a3 :: r, _ =>
    show fourL (a0.toNat + 256 * a1.toNat + 65536 * a2.toNat + 16777216 * a3.toNat) ++ r = _
    rw [four_of]
    rfl

/-- One byte of a text changed: its number. -/
theorem num_set : ∀ (l : List UInt8) (k : Nat) (hk : k < l.length) (c : UInt8), num (l.set k c) = num l ^^^ 2 ^ (8 * k) * (l[k].toNat ^^^ c.toNat)
  | a :: l, 0, hk, c => by
    simp only [List.set_cons_zero, num, List.getElem_cons_zero, Nat.mul_zero, Nat.pow_zero, Nat.one_mul]
    rw [Nat.xor_comm a.toNat c.toNat, Nat.xor_comm a.toNat, Nat.xor_assoc, ← Nat.xor_assoc a.toNat, Nat.xor_comm a.toNat c.toNat, Nat.xor_assoc c.toNat, Nat.xor_self, Nat.xor_zero, Nat.xor_comm]
  | a :: l, k + 1, hk, c => by
    have hk' : k < l.length := by simpa using hk
    have e := num_set l k hk' c
    simp only [List.set_cons_succ, num, List.getElem_cons_succ]
    rw [e, Nat.xor_assoc, show 8 * (k + 1) = 8 + 8 * k from by omega, Nat.pow_add 2 8, Nat.mul_assoc]
    congr 1
    have := Nat.shiftLeft_xor_distrib (a := num l) (b := 2 ^ (8 * k) * (l[k].toNat ^^^ c.toNat)) (i := 8)
    simp only [Nat.shiftLeft_eq] at this
    rw [Nat.mul_comm, this, Nat.mul_comm (num l), Nat.mul_comm (_ * (_ ^^^ _))]
/-- One byte of a text changed: another sum. -/
theorem sum_set (l : List UInt8) (k : Nat) (hk : k < l.length) (c : UInt8) (hc : c ≠ l[k]) : moreS 0 (l.set k c) ≠ moreS 0 l := by
  intro h
  have ht : Turned l (l.set k c) (8 * k) 32 := ⟨by rw [List.length_set], l[k].toNat ^^^ c.toNat, Nat.lt_of_lt_of_le (Nat.xor_lt_two_pow (n := 8) l[k].toNat_lt c.toNat_lt) (by decide), num_set l k hk c⟩
  have := (burst ht (by omega)).1 h
  exact hc (by have e : (l.set k c)[k]'(by rw [List.length_set]; exact hk) = l[k] := by simp only [this]
               rw [List.getElem_set_self] at e; exact e)
/-- One byte of a page changed: the sum is wrong. -/
theorem sum_turn {b : List UInt8} (hb : b.length = 64) (hs : SumOk b) (k : Nat) (hk : k < 64) (c : UInt8) (hc : c ≠ b[k]'(by omega)) : ¬ SumOk (b.set k c) := by
  intro h
  unfold SumOk at hs h
  by_cases h4 : k < 4
  · have e : (b.set k c).drop 4 = b.drop 4 := by rw [List.drop_set]; simp [h4]
    rw [e, ← hs] at h
    have g (i : Nat) : B (b.set k c) i = if k = i then c.toNat else B b i := by
      unfold B
      rw [List.getD_eq_getElem?_getD, List.getD_eq_getElem?_getD, List.getElem?_set]
      split
      · rw [if_pos (by omega)]; rfl
      · rfl
    have hne : c.toNat ≠ B b k := by
      unfold B
      rw [gd_get _ _ (by omega)]
      exact fun e => hc (UInt8.toNat_inj.1 e)
    have b0 := B_lt b 0
    have b1 := B_lt b 1
    have b2 := B_lt b 2
    have b3 := B_lt b 3
    have bc := c.toNat_lt
    unfold fo at h
    rw [g, g, g, g] at h
    obtain rfl | rfl | rfl | rfl : k = 0 ∨ k = 1 ∨ k = 2 ∨ k = 3 := by omega
    all_goals simp at h
    all_goals omega
  · have e0 : fo (b.set k c) 0 = fo b 0 := by
      have g (i : Nat) (hi : i < 4) : B (b.set k c) i = B b i := by
        unfold B
        rw [List.getD_eq_getElem?_getD, List.getD_eq_getElem?_getD, List.getElem?_set_ne (by omega)]
      unfold fo
      rw [g _ (by omega), g _ (by omega), g _ (by omega), g _ (by omega)]
    have e1 : (b.set k c).drop 4 = (b.drop 4).set (k - 4) c := by rw [List.drop_set]; simp [h4]
    rw [e0, e1, hs] at h
    refine sum_set (b.drop 4) (k - 4) (by rw [List.length_drop]; omega) c ?_ h.symm
    rw [List.getElem_drop]
    intro e
    apply hc
    rw [e]
    congr 1
    omega
/-- Four bytes in the midst. -/
theorem four_fo (b : List UInt8) (i : Nat) (h : i + 4 ≤ b.length) : fourL (fo b i) = (b.drop i).take 4 := by
  rw [List.drop_eq_getElem_cons (by omega), List.drop_eq_getElem_cons (i := i + 1) (by omega), List.drop_eq_getElem_cons (i := i + 1 + 1) (by omega), List.drop_eq_getElem_cons (i := i + 1 + 1 + 1) (by omega)]
  simp only [List.take_succ_cons, List.take_zero]
  unfold fo B
  rw [gd_get b i (by omega), gd_get b (i + 1) (by omega), gd_get b (i + 2) (by omega), gd_get b (i + 3) (by omega), four_of]
theorem num_fo (b : List UInt8) (i : Nat) (h : i + 4 ≤ b.length) : num ((b.drop i).take 4) = fo b i := by
  rw [← four_fo b i h, num_four _ (fo_lt b i)]
/-- Unlike pages have unlike bytes. -/
theorem lay_inj {p q : Pv} (hp : p.right) (hq : q.right) (op : p.Ok) (oq : q.Ok) (h : p.lay = q.lay) : p = q := by
  rw [← pg_lay hp op, h, pg_lay hq oq]
end Go.Proofs.Ytmaelcjmojhlpaa.Pa
