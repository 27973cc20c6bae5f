/- Texts of the walk, one behind the other. -/
import Derived.Test.YtfohinlldchdpaaGreatDoorEncPlaysM7
import Derived.Test.YtfohinlldchdpaaGreatDoorEncPlaysM10
import Derived.Lib.TrimByte

section
/- Plain mathematics of a range coder, second part: used bits, and how they grow. -/
namespace Go.Proofs.YtfohinlldchdpaaGreatDoor.Rg

theorem bl_lt {x k : Nat} (hx : x < 2 ^ 64) (hk : k ≤ 64) : Lib.bitLen x ≤ k ↔ x < 2 ^ k :=
  ⟨fun h => Nat.lt_of_lt_of_le (bl_spec 64 x (Nat.le_refl _) hx).1 (Nat.pow_le_pow_right (by omega) h), fun h => Lib.bitLen_le x k hk h⟩
theorem pow256 (k : Nat) : 256 ^ k = 2 ^ (8 * k) := by rw [Nat.pow_mul]

/-- Bits that are used. -/
def St.used (x : St) : Int := 8 * (x.g : Int) + 32 - (Lib.bitLen x.r : Nat)
/-- Used bits of coders that a list of cells makes are at least 0. -/
theorem used_nonneg {x : St} (hx : x.ok) : 0 ≤ x.used := by
  have := (bl_lt (x := x.r) (k := 32) (by have := hx.2.1; omega) (by omega)).2 (by have := hx.2.1; omega)
  unfold St.used
  omega
/-- How far cells go: no more than two bytes a cell. -/
theorem put_g {x : St} {c : Cl} (hx : x.ok) (hc : c.ok) : (x.put c).g ≤ x.g + 2 := by
  obtain ⟨b1, b2, b3, b4⟩ := step_bd hx hc
  show x.g + sh (x.r / c.t * c.w) ≤ x.g + 2
  have : 256 ≤ x.r / c.t * c.w := Nat.le_trans (show 256 ≤ x.r / c.t by omega) (Nat.le_mul_of_pos_right _ hc.2.2.1)
  unfold sh
  split <;> (try split) <;> (try split) <;> omega
theorem run_g_le : ∀ {l : List Cl} {x : St}, x.ok → (∀ c ∈ l, c.ok) → (x.run l).g ≤ x.g + 2 * l.length
  | [], _, _, _ => Nat.le_refl _
  | c :: l, x, hx, hl => by
    have hc := hl c (by simp)
    have h1 := put_g hx hc
    have h2 := run_g_le (l := l) (x := x.put c) (put_ok hx hc) fun d hd => hl d (by simp [hd])
    show ((x.put c).run l).g ≤ _
    simp only [List.length_cons]
    omega
theorem run_snoc (x : St) (l : List Cl) (c : Cl) : x.run (l ++ [c]) = (x.run l).put c := by unfold St.run; rw [List.foldl_append]; rfl
theorem run_append (x : St) (l m : List Cl) : x.run (l ++ m) = (x.run l).run m := by unfold St.run; rw [List.foldl_append]
end Go.Proofs.YtfohinlldchdpaaGreatDoor.Rg
end

section
/- Plain mathematics of a range coder, third part: a number's bytes, a number added to them with a carry, zero bytes behind. -/
namespace Go.Proofs.YtfohinlldchdpaaGreatDoor.Rg

/-- The byte number i of L, in n bytes, the highest first. -/
def dg (L n i : Nat) : Nat := L / 256 ^ (n - 1 - i) % 256
theorem dg_lt (L n i : Nat) : dg L n i < 256 := Nat.mod_lt _ (by omega)
theorem digit_dg {N G i : Nat} (h : i < 4 + G) : digit N G i = dg N (4 + G) i := by
  unfold digit dg
  rw [if_pos h, show 4 + G - 1 - i = 3 + G - i by omega]

/-- What is carried, and still to be added, where the k lowest bytes are done. -/
def cr (L a k : Nat) : Nat := (L % 256 ^ k + a) / 256 ^ k
theorem cr_zero (L a : Nat) : cr L a 0 = a := by unfold cr; simp [Nat.mod_one]
theorem cr_split (L k : Nat) : L % 256 ^ (k + 1) = L / 256 ^ k % 256 * 256 ^ k + L % 256 ^ k := by
  rw [Nat.pow_succ, Nat.mod_mul, Nat.mul_comm (256 ^ k)]; omega
theorem cr_next (L a k : Nat) : cr L a (k + 1) = (cr L a k + L / 256 ^ k % 256) / 256 := by
  unfold cr
  rw [cr_split, Nat.pow_succ, ← Nat.div_div_eq_div_mul]
  have hp : 0 < 256 ^ k := Nat.pow_pos (by omega)
  generalize L / 256 ^ k % 256 = d
  generalize L % 256 ^ k = m
  generalize 256 ^ k = p at *
  rw [show d * p + m + a = m + a + p * d by rw [Nat.mul_comm p]; omega, Nat.add_mul_div_left _ _ hp]
theorem cr_digit (L a k : Nat) : (cr L a k + L / 256 ^ k % 256) % 256 = (L + a) / 256 ^ k % 256 := by
  unfold cr
  have hp : 0 < 256 ^ k := Nat.pow_pos (by omega)
  have e := Nat.div_add_mod L (256 ^ k)
  generalize hq : L / 256 ^ k = q at *
  generalize L % 256 ^ k = m at *
  generalize 256 ^ k = p at *
  rw [show L + a = m + a + p * q by omega, Nat.add_mul_div_left _ _ hp]
  omega
theorem cr_end {L a n : Nat} (h : L + a < 256 ^ n) : cr L a n = 0 := by
  unfold cr
  rw [Nat.mod_eq_of_lt (by omega)]
  exact Nat.div_eq_of_lt h
theorem cr_dg {L a n i : Nat} : (cr L a (n - 1 - i) + dg L n i) % 256 = dg (L + a) n i := cr_digit L a (n - 1 - i)
theorem cr_up {L a n i : Nat} (hi : i < n) : cr L a (n - i) = (cr L a (n - 1 - i) + dg L n i) / 256 := by
  have := cr_next L a (n - 1 - i)
  rw [show n - 1 - i + 1 = n - i by omega] at this
  exact this
theorem cr_le (L a k : Nat) : cr L a k ≤ a := by
  unfold cr
  have hp : 0 < 256 ^ k := Nat.pow_pos (by omega)
  by_cases h : a = 0
  · subst h
    rw [Nat.add_zero, Nat.div_eq_of_lt (Nat.mod_lt _ hp)]
    omega
  · have hm := Nat.mod_lt L hp
    have : (L % 256 ^ k + a) / 256 ^ k < a + 1 := by
      rw [Nat.div_lt_iff_lt_mul hp, Nat.add_mul, Nat.one_mul]
      have := Nat.le_mul_of_pos_right a hp
      omega
    omega

/-- Zero bytes behind. -/
theorem dg_shift {L n k i : Nat} (h2 : i < n + k) : dg (L * 256 ^ k) (n + k) i = if i < n then dg L n i else 0 := by
  unfold dg
  have hp : ∀ m, 0 < 256 ^ m := fun m => Nat.pow_pos (by omega)
  by_cases h : i < n
  · rw [if_pos h, show n + k - 1 - i = k + (n - 1 - i) by omega, Nat.pow_add, ← Nat.div_div_eq_div_mul, Nat.mul_div_cancel _ (hp k)]
  · rw [if_neg h]
    rw [show k = (n + k - 1 - i) + (k - (n + k - 1 - i)) by omega, Nat.pow_add, show n + (n + k - 1 - i + (k - (n + k - 1 - i))) - 1 - i = n + k - 1 - i by omega]
    rw [← Nat.mul_assoc, Nat.mul_right_comm, Nat.mul_div_cancel _ (hp _), show k - (n + k - 1 - i) = (k - (n + k - 1 - i) - 1) + 1 by omega, Nat.pow_succ, ← Nat.mul_assoc, Nat.mul_mod_left]
end Go.Proofs.YtfohinlldchdpaaGreatDoor.Rg
end

section
/- Plain mathematics of the numbers' cells: widths, starts, whose cell a place lies in, costs. -/
set_option maxRecDepth 100000
namespace Go.Proofs.YtfohinlldchdpaaGreatDoor.Lp
open Go.Proofs.YtfohinlldchdpaaGreatDoor.Rg

/-- The width of k and of -k. -/
def wd (k : Nat) : Nat := if k = 0 then 12568 else max (5000 / 2 ^ (k - 1)) 8
/-- What is left of 2^15 ahead of k's width. -/
def rest : Nat → Nat
  | 0 => 32768
  | 1 => 32768
  | k + 2 => rest (k + 1) - 2 * wd (k + 1)
/-- The number at place i of the order, its width, its start. -/
def nI (i : Nat) : Nat := (i + 1) / 2
def vI (i : Nat) : Int := if i % 2 = 1 then (nI i : Int) else -(nI i : Int)
def wI (i : Nat) : Nat := wd (nI i)
def sI : Nat → Nat
  | 0 => 0
  | i + 1 => sI i + wI i

theorem wd_ge {k : Nat} (h : k ≤ 24) : 8 ≤ wd k := by
  revert h; revert k; decide
theorem wd_le (k : Nat) : wd k ≤ 12568 := by
  unfold wd
  split
  · omega
  · have := Nat.div_le_self 5000 (2 ^ (k - 1)); omega
theorem rest_le {k : Nat} (h : k ≤ 25) : 12568 ≤ rest k ∧ rest k ≤ 32768 := by
  revert h; revert k; decide +kernel
theorem rest_next {k : Nat} (h1 : 1 ≤ k) (h : k ≤ 24) : rest (k + 1) + 2 * wd k = rest k := by
  revert h1; revert h; revert k; decide +kernel
theorem sI_le {i : Nat} (h : i ≤ 49) : sI i ≤ 32768 := by
  revert h; revert i; decide +kernel
theorem sw_le {i : Nat} (h : i < 49) : sI i + wI i ≤ 32768 := sI_le (i := i + 1) (by omega)
theorem wI_ge {i : Nat} (h : i < 49) : 8 ≤ wI i := wd_ge (by unfold nI; omega)
theorem sI_lt {i j : Nat} (h : i < j) : sI i + wI i ≤ sI j := by
  obtain ⟨d, rfl⟩ : ∃ d, j = i + 1 + d := ⟨j - (i + 1), by omega⟩
  clear h
  induction d with
  | zero => exact Nat.le_refl _
  | succ d ih => exact Nat.le_trans ih (Nat.le_add_right _ _)

/-- The place of a number in the order. -/
def iV (v : Int) : Nat := if 0 < v then 2 * v.natAbs - 1 else 2 * v.natAbs
theorem vI_iV (v : Int) : vI (iV v) = v := by
  unfold vI nI iV
  split <;> split <;> omega
theorem iV_vI (i : Nat) : iV (vI i) = i := by
  unfold vI nI iV
  split <;> split <;> omega
theorem iV_lt {v : Int} : iV v < 49 ↔ -24 ≤ v ∧ v ≤ 24 := by
  unfold iV
  split <;> omega
/-- Whose cell a place lies in: the place in the order. -/
def fI (p : Nat) : Nat := ((List.range 49).find? fun i => decide (p < sI i + wI i)).getD 0
theorem fI_spec {p : Nat} (h : p < 32768) : fI p < 49 ∧ p < sI (fI p) + wI (fI p) ∧ ∀ i, i < fI p → sI i + wI i ≤ p := by
  unfold fI
  cases e : (List.range 49).find? fun i => decide (p < sI i + wI i) with
  | none =>
    rw [List.find?_eq_none] at e
    have := e 48 (by simp)
    have h2 : sI 48 + wI 48 = 32768 := by decide +kernel
    simp only [h2, decide_eq_true_eq] at this
    exact absurd h this
  | some i =>
    rw [List.find?_range_eq_some] at e
    obtain ⟨e1, e2, e3⟩ := e
    refine ⟨by simpa using e2, by simpa using e1, fun j hj => ?_⟩
    have := e3 j hj
    simp only [Bool.not_eq_eq_eq_not, Bool.not_true, decide_eq_false_iff_not, Nat.not_lt] at this
    exact this
theorem fI_ge {p : Nat} (h : p < 32768) : sI (fI p) ≤ p := by
  obtain ⟨_, _, h3⟩ := fI_spec h
  cases e : fI p with
  | zero => exact Nat.zero_le _
  | succ i => exact h3 i (by omega)
theorem fI_eq {p i : Nat} (h : i < 49) (h1 : sI i ≤ p) (h2 : p < sI i + wI i) : fI p = i := by
  have hp : p < 32768 := Nat.lt_of_lt_of_le h2 (sw_le h)
  obtain ⟨f1, f2, f3⟩ := fI_spec hp
  have f4 := fI_ge hp
  rcases Nat.lt_trichotomy (fI p) i with c | c | c
  · have := sI_lt c; omega
  · exact c
  · have := sI_lt c; omega

/-- A number's cell. -/
def cl (v : Int) : Cl := ⟨sI (iV v), wI (iV v), 32768⟩
theorem cl_ok {v : Int} (h1 : -24 ≤ v) (h2 : v ≤ 24) : (cl v).ok := by
  have h := iV_lt.2 ⟨h1, h2⟩
  have h3 := sw_le h
  have h4 := wI_ge h
  exact ⟨by show 1 ≤ 32768; omega, Nat.le_refl _, by show 1 ≤ wI (iV v); omega, h3⟩

/-- How many bits a number takes, rounded up. -/
def cost (w : Nat) : Nat := ((List.range 16).find? fun n => decide (32768 / 2 ^ n ≤ w)).getD 15
/-- Bits: a bound that grows with every cell by what it costs and one. -/
def Fits (x : St) (K : Nat) : Prop := 4294967296 * 256 ^ x.g ≤ x.r * 2 ^ K
theorem fits_used {x : St} {K : Nat} (hx : x.ok) (h : Fits x K) : x.used + 1 ≤ K := by
  have hr := hx.2.1
  have hb := (bl_spec 64 x.r (Nat.le_refl _) (by omega)).1
  unfold Fits at h
  have h1 : 2 ^ (32 + 8 * x.g) < 2 ^ (Lib.bitLen x.r + K) := by
    rw [Nat.pow_add, Nat.pow_add, ← pow256]
    exact Nat.lt_of_le_of_lt h (Nat.mul_lt_mul_of_pos_right hb (Nat.pow_pos (by omega)))
  have h2 : 32 + 8 * x.g < Lib.bitLen x.r + K := (Nat.pow_lt_pow_iff_right (by omega)).1 h1
  unfold St.used
  omega
end Go.Proofs.YtfohinlldchdpaaGreatDoor.Lp
end

section
/- Plain mathematics of a range coder, fourth part: a coder of a size: the last four bytes of low, the bytes ahead of them up to the size, and what is told of the rest. -/
namespace Go.Proofs.YtfohinlldchdpaaGreatDoor.Rg

/-- What a rest is with one byte more: 0: no byte; 1: all 0; 2: all 255; 3: other. -/
def alone (b : Nat) : Nat := if b = 0 then 1 else if b = 255 then 2 else 3
def withR (r b : Nat) : Nat := if r = 0 ∨ r = alone b then alone b else 3

theorem alone_cases (b : Nat) : (b = 0 ∧ alone b = 1) ∨ (b = 255 ∧ alone b = 2) ∨ (b ≠ 0 ∧ b ≠ 255 ∧ alone b = 3) := by
  unfold alone
  by_cases h0 : b = 0
  · rw [if_pos h0]; omega
  · by_cases h1 : b = 255
    · rw [if_neg h0, if_pos h1]; omega
    · rw [if_neg h0, if_neg h1]; omega
/-- The first m bytes of a number of n bytes. -/
def dgs (L n m : Nat) : List UInt8 := (List.range m).map fun i => UInt8.ofNat (dg L n i)
theorem dgs_length (L n m : Nat) : (dgs L n m).length = m := by unfold dgs; simp
theorem dgs_get (L n m i : Nat) (h : i < m) : (dgs L n m)[i]? = some (UInt8.ofNat (dg L n i)) := by unfold dgs; simp [h]
theorem dgs_succ (L n m : Nat) : dgs L n (m + 1) = dgs L n m ++ [UInt8.ofNat (dg L n m)] := by unfold dgs; rw [List.range_succ, List.map_append]; rfl
theorem dgs_ext {L n L' n' m : Nat} (h : ∀ i, i < m → dg L n i = dg L' n' i) : dgs L n m = dgs L' n' m := by
  unfold dgs
  exact List.map_congr_left fun i hi => by rw [h i (by simpa using hi)]
theorem dgs_shift {L n k m : Nat} (h : m ≤ n) : dgs (L * 256 ^ k) (n + k) m = dgs L n m := dgs_ext fun i hi => by rw [dg_shift (by omega), if_pos (by omega)]
theorem dg_head {L n m i : Nat} (h : i < m) (hm : m ≤ n) : dg L n i = dg (L / 256 ^ (n - m)) m i := by
  unfold dg
  rw [Nat.div_div_eq_div_mul, ← Nat.pow_add, show n - m + (m - 1 - i) = n - 1 - i by omega]
theorem dgs_head {L n m : Nat} (hm : m ≤ n) : dgs L n m = dgs (L / 256 ^ (n - m)) m m := dgs_ext fun _ hi => dg_head hi hm

/-- The bytes between the size and the last four, as a number. -/
def mid (size : Nat) (x : St) : Nat := x.L / 4294967296 % 256 ^ (x.g - size)

def restOk (size : Nat) (x : St) (rest : Nat) : Prop :=
  (rest = 0 ∧ x.g ≤ size) ∨
  (size < x.g ∧ ((rest = 1 ∧ mid size x = 0) ∨ (rest = 2 ∧ mid size x + 1 = 256 ^ (x.g - size)) ∨
    (rest = 3 ∧ mid size x ≠ 0 ∧ (mid size x + 1 = 256 ^ (x.g - size) → x.L % 4294967296 + x.r ≤ 4294967296))))

structure Rep (size : Nat) (x : St) (low : Nat) (bs : List UInt8) (rest : Nat) : Prop where
  low : low = x.L % 4294967296
  bs : bs = dgs x.L (4 + x.g) (min x.g size)
  rest : restOk size x rest

theorem rep_new (size : Nat) : Rep size St.new 0 [] 0 := by
  refine ⟨rfl, ?_, .inl ⟨rfl, Nat.zero_le _⟩⟩
  show [] = dgs 0 (4 + 0) (min 0 size)
  rw [Nat.zero_min]
  rfl

theorem restOk_le {size rest : Nat} {x : St} (h : restOk size x rest) : rest ≤ 3 := by unfold restOk at h; omega

/-- Without a carry. -/
theorem rep_add {size low rest a q : Nat} {x : St} {bs : List UInt8} (h : Rep size x low bs rest) (hq : a + q ≤ x.r) (hc : low + a < 4294967296) : Rep size ⟨x.L + a, q, x.g⟩ (low + a) bs rest := by
  obtain ⟨h1, h2, h3⟩ := h
  have e : (x.L + a) / 4294967296 = x.L / 4294967296 := by omega
  have e2 : ∀ k, (x.L + a) / 256 ^ (4 + k) = x.L / 256 ^ (4 + k) := fun k => by
    rw [Nat.pow_add, ← Nat.div_div_eq_div_mul, ← Nat.div_div_eq_div_mul, show 256 ^ 4 = 4294967296 by rfl, e]
  refine ⟨show low + a = (x.L + a) % 4294967296 by omega, ?_, ?_⟩
  · rw [h2]
    refine dgs_ext fun i hi => ?_
    show dg x.L (4 + x.g) i = dg (x.L + a) (4 + x.g) i
    unfold dg
    rw [show 4 + x.g - 1 - i = 4 + (x.g - 1 - i) by omega, e2]
  · unfold restOk mid at *
    dsimp only
    rw [e]
    rcases h3 with h3 | ⟨h3, h4 | h4 | ⟨h4, h5, h6⟩⟩
    · exact .inl h3
    · exact .inr ⟨h3, .inl h4⟩
    · exact .inr ⟨h3, .inr (.inl h4)⟩
    · exact .inr ⟨h3, .inr (.inr ⟨h4, h5, fun h => by have := h6 h; omega⟩)⟩

/-- What a carry makes of the rest: 3 of 1 and 3, where it goes no further; 1 of 2, and 0 of 0. -/
theorem mod_succ_lt {a m : Nat} (h : a % m + 1 < m) : (a + 1) % m = a % m + 1 ∧ (a + 1) / m = a / m := by
  have h0 : 0 < m := by omega
  have e := Nat.div_add_mod a m
  have e1 : a + 1 = (a % m + 1) + m * (a / m) := by omega
  rw [e1, Nat.add_mul_mod_self_left, Nat.mod_eq_of_lt h, Nat.add_mul_div_left _ _ h0, Nat.div_eq_of_lt h]
  omega
theorem mod_succ_eq {a m : Nat} (h0 : 0 < m) (h : a % m + 1 = m) : (a + 1) % m = 0 ∧ (a + 1) / m = a / m + 1 := by
  have e := Nat.div_add_mod a m
  have e1 : a + 1 = m * (a / m + 1) := by rw [Nat.mul_add, Nat.mul_one]; omega
  rw [e1]
  exact ⟨Nat.mul_mod_right _ _, Nat.mul_div_cancel_left _ h0⟩

theorem carry_stop {size low rest a q : Nat} {x : St} {bs : List UInt8} (h : Rep size x low bs rest) (hl : low ≤ 4294967295) (ha : a ≤ 4294967295) (hq : a + q ≤ x.r) (q1 : 1 ≤ q) (hr : x.r ≤ 4294967295) (hc : 4294967296 ≤ low + a) (hrest : rest = 1 ∨ rest = 3) :
    Rep size ⟨x.L + a, q, x.g⟩ (low + a - 4294967296) bs 3 := by
  obtain ⟨h1, h2, h3⟩ := h
  have e : (x.L + a) / 4294967296 = x.L / 4294967296 + 1 := by omega
  have eg : size < x.g := by unfold restOk at h3; omega
  have hp : 1 < 256 ^ (x.g - size) := Nat.one_lt_two_pow_iff.2 (by omega) |> fun h => Nat.lt_of_lt_of_le h (by rw [pow256]; exact Nat.pow_le_pow_right (by omega) (by omega : x.g - size ≤ 8 * (x.g - size)))
  have hm : mid size x + 1 < 256 ^ (x.g - size) := by
    have hlt : mid size x < 256 ^ (x.g - size) := Nat.mod_lt _ (by omega)
    unfold restOk at h3
    rcases h3 with h3 | ⟨_, h4 | h4 | ⟨h4, h5, h6⟩⟩
    · omega
    · omega
    · omega
    · by_cases he : mid size x + 1 = 256 ^ (x.g - size)
      · have := h6 he; omega
      · omega
  obtain ⟨m1, m2⟩ := mod_succ_lt (show x.L / 4294967296 % 256 ^ (x.g - size) + 1 < 256 ^ (x.g - size) from hm)
  refine ⟨show low + a - 4294967296 = (x.L + a) % 4294967296 by omega, ?_, ?_⟩
  · rw [h2, Nat.min_eq_right (by omega)]
    show dgs x.L (4 + x.g) size = dgs (x.L + a) (4 + x.g) size
    rw [dgs_head (by omega), dgs_head (L := x.L + a) (by omega)]
    rw [show 4 + x.g - size = 4 + (x.g - size) by omega, Nat.pow_add, ← Nat.div_div_eq_div_mul, ← Nat.div_div_eq_div_mul, show 256 ^ 4 = 4294967296 by rfl, e, m2]
  · refine .inr ⟨eg, .inr (.inr ⟨rfl, ?_, fun _ => ?_⟩)⟩
    · unfold mid
      dsimp only
      rw [e, m1]
      omega
    · show (x.L + a) % 4294967296 + q ≤ 4294967296
      omega

theorem carry_goes {size low rest a q : Nat} {x : St} {bs : List UInt8} (h : Rep size x low bs rest) (hl : low ≤ 4294967295) (ha : a ≤ 4294967295) (hc : 4294967296 ≤ low + a) (hrest : rest = 0 ∨ rest = 2) :
    ∃ P n, n = bs.length ∧ bs = dgs P n n ∧ Rep size ⟨x.L + a, q, x.g⟩ (low + a - 4294967296) (dgs (P + 1) n n) (if rest = 2 then 1 else 0) := by
  obtain ⟨h1, h2, h3⟩ := h
  have e : (x.L + a) / 4294967296 = x.L / 4294967296 + 1 := by omega
  refine ⟨x.L / 256 ^ (4 + x.g - min x.g size), min x.g size, by rw [h2, dgs_length], by rw [h2]; exact dgs_head (by omega), show low + a - 4294967296 = (x.L + a) % 4294967296 by omega, ?_, ?_⟩
  · show _ = dgs (x.L + a) (4 + x.g) (min x.g size)
    rw [dgs_head (L := x.L + a) (by omega)]
    congr 1
    unfold restOk at h3
    rw [show 4 + x.g - min x.g size = 4 + (x.g - min x.g size) by omega, Nat.pow_add, ← Nat.div_div_eq_div_mul, ← Nat.div_div_eq_div_mul, show 256 ^ 4 = 4294967296 by rfl, e]
    rcases h3 with h3 | ⟨h3, h4⟩
    · rw [Nat.min_eq_left h3.2, Nat.sub_self, Nat.pow_zero, Nat.div_one, Nat.div_one]
    · rw [Nat.min_eq_right (by omega)]
      have h2' : mid size x + 1 = 256 ^ (x.g - size) := by
        rcases h4 with h4 | h4 | h4
        · omega
        · exact h4.2
        · omega
      exact (mod_succ_eq (Nat.pow_pos (by omega)) h2').2.symm
  · unfold restOk at h3
    rcases h3 with h3 | ⟨h3, h4⟩
    · rw [if_neg (by omega)]
      exact .inl ⟨rfl, h3.2⟩
    · have h2' : mid size x + 1 = 256 ^ (x.g - size) := by
        rcases h4 with h4 | h4 | h4
        · omega
        · exact h4.2
        · omega
      rw [if_pos (by omega)]
      refine .inr ⟨h3, .inl ⟨rfl, ?_⟩⟩
      unfold mid
      dsimp only
      rw [e]
      exact (mod_succ_eq (Nat.pow_pos (by omega)) h2').1

theorem top_byte (L : Nat) : L / 256 ^ 3 % 256 = L % 4294967296 / 16777216 := by
  rw [show 256 ^ 3 = 16777216 by rfl]; omega

/-- One byte further. -/
theorem rep_shift {size low rest : Nat} {x : St} {bs : List UInt8} (h : Rep size x low bs rest) :
    Rep size ⟨x.L * 256, x.r * 256, x.g + 1⟩ (low * 256 % 4294967296) (if bs.length < size then bs ++ [UInt8.ofNat (low / 16777216)] else bs) (if bs.length < size then rest else withR rest (low / 16777216)) := by
  obtain ⟨h1, h2, h3⟩ := h
  have hlen : bs.length = min x.g size := by rw [h2, dgs_length]
  rw [hlen]
  refine ⟨show low * 256 % 4294967296 = x.L * 256 % 4294967296 by omega, ?_, ?_⟩
  · show _ = dgs (x.L * 256) (4 + (x.g + 1)) (min (x.g + 1) size)
    by_cases hg : x.g < size
    · rw [if_pos (by omega), Nat.min_eq_left (by omega), dgs_succ, h2, Nat.min_eq_left (by omega)]
      rw [show x.L * 256 = x.L * 256 ^ 1 by rw [Nat.pow_one], show 4 + (x.g + 1) = 4 + x.g + 1 by omega, dgs_shift (by omega), dg_shift (by omega), if_pos (by omega)]
      unfold dg
      rw [show 4 + x.g - 1 - x.g = 3 by omega, top_byte, h1]
    · rw [if_neg (by omega), h2, Nat.min_eq_right (by omega), Nat.min_eq_right (by omega), show x.L * 256 = x.L * 256 ^ 1 by rw [Nat.pow_one], show 4 + (x.g + 1) = 4 + x.g + 1 by omega, dgs_shift (by omega)]
  · by_cases hg : x.g < size
    · rw [if_pos (by omega)]
      unfold restOk at h3
      exact .inl ⟨by omega, hg⟩
    · rw [if_neg (by omega)]
      have hb := alone_cases (low / 16777216)
      have hw := show withR rest (low / 16777216) = if rest = 0 ∨ rest = alone (low / 16777216) then alone (low / 16777216) else 3 from rfl
      rw [hw]
      have hk : x.g + 1 - size = (x.g - size) + 1 := by omega
      have eR : mid size ⟨x.L * 256, x.r * 256, x.g + 1⟩ = mid size x * 256 + low / 16777216 := by
        unfold mid
        dsimp only
        rw [hk]
        rw [show x.L * 256 / 4294967296 = x.L / 4294967296 * 256 + x.L % 4294967296 / 16777216 by omega, h1]
        generalize x.L / 4294967296 = y
        have ht : x.L % 4294967296 / 16777216 < 256 := by omega
        generalize x.L % 4294967296 / 16777216 = t at *
        have hp : 0 < 256 ^ (x.g - size) := Nat.pow_pos (by omega)
        rw [Nat.pow_succ, Nat.mul_comm (256 ^ (x.g - size)), Nat.mod_mul]
        rw [show (y * 256 + t) % 256 = t by omega, show (y * 256 + t) / 256 = y by omega]
        omega
      have ht : low / 16777216 ≤ 255 := by omega
      refine .inr ⟨show size < x.g + 1 by omega, ?_⟩
      show ((_ : Nat) = 1 ∧ mid size ⟨x.L * 256, x.r * 256, x.g + 1⟩ = 0) ∨ ((_ : Nat) = 2 ∧ mid size ⟨x.L * 256, x.r * 256, x.g + 1⟩ + 1 = 256 ^ (x.g + 1 - size)) ∨
        ((_ : Nat) = 3 ∧ mid size ⟨x.L * 256, x.r * 256, x.g + 1⟩ ≠ 0 ∧ (mid size ⟨x.L * 256, x.r * 256, x.g + 1⟩ + 1 = 256 ^ (x.g + 1 - size) → x.L * 256 % 4294967296 + x.r * 256 ≤ 4294967296))
      rw [eR, hk, Nat.pow_succ]
      have hp : 0 < 256 ^ (x.g - size) := Nat.pow_pos (by omega)
      have hmlt : mid size x < 256 ^ (x.g - size) := Nat.mod_lt _ hp
      unfold restOk at h3
      rcases h3 with ⟨h3, h4⟩ | ⟨h3, h4 | h4 | ⟨h4, h5, h6⟩⟩
      · have ek : x.g - size = 0 := by omega
        rw [ek, Nat.pow_zero] at hmlt ⊢
        rw [if_pos (.inl h3)]
        omega
      · have hbig : 256 ≤ 256 ^ (x.g - size) := by
          have := Nat.pow_le_pow_right (n := 256) (by omega) (show 1 ≤ x.g - size by omega)
          omega
        generalize 256 ^ (x.g - size) = p at *
        rcases hb with ⟨b1, b2⟩ | ⟨b1, b2⟩ | ⟨b1, b2, b3⟩
        · rw [if_pos (.inr (by omega))]; omega
        · rw [if_neg (by omega)]; omega
        · rw [if_neg (by omega)]; omega
      · have hbig : 256 ≤ 256 ^ (x.g - size) := by
          have := Nat.pow_le_pow_right (n := 256) (by omega) (show 1 ≤ x.g - size by omega)
          omega
        generalize 256 ^ (x.g - size) = p at *
        rcases hb with ⟨b1, b2⟩ | ⟨b1, b2⟩ | ⟨b1, b2, b3⟩
        · rw [if_neg (by omega)]; omega
        · rw [if_pos (.inr (by omega))]; omega
        · rw [if_neg (by omega)]; omega
      · have key : mid size x * 256 + low / 16777216 + 1 = 256 ^ (x.g - size) * 256 → x.L * 256 % 4294967296 + x.r * 256 ≤ 4294967296 := fun he => by
          have := h6 (by omega)
          have : low / 16777216 = 255 := by omega
          omega
        generalize 256 ^ (x.g - size) = p at *
        rcases hb with ⟨b1, b2⟩ | ⟨b1, b2⟩ | ⟨b1, b2, b3⟩
        · rw [if_neg (by omega)]; exact .inr (.inr ⟨rfl, by omega, key⟩)
        · rw [if_neg (by omega)]; exact .inr (.inr ⟨rfl, by omega, key⟩)
        · rw [if_pos (.inr (by omega))]; exact .inr (.inr ⟨b3, by omega, key⟩)
end Go.Proofs.YtfohinlldchdpaaGreatDoor.Rg
end

section
/- Plain mathematics of a range coder, fifth part: all of a coder's bytes, without the zero ones at the end, and filled up. -/
namespace Go.Proofs.YtfohinlldchdpaaGreatDoor.Rg

/-- The last four bytes. -/
def lowB (low : Nat) : List UInt8 := [UInt8.ofNat (low / 16777216), UInt8.ofNat (low / 65536 % 256), UInt8.ofNat (low / 256 % 256), UInt8.ofNat (low % 256)]
/-- All bytes. -/
def St.all (x : St) : List UInt8 := dgs x.L (4 + x.g) (4 + x.g)
/-- All bytes but the zero ones at the end. -/
def St.trim (x : St) : List UInt8 := Lib.trimRightB x.all 0
/-- The bytes of a size. -/
def St.text (x : St) (size : Nat) : List UInt8 := x.trim ++ List.replicate (size - x.trim.length) 0

theorem dgs_add (L n a b : Nat) : dgs L n (a + b) = dgs L n a ++ (List.range b).map fun i => UInt8.ofNat (dg L n (a + i)) := by
  unfold dgs
  rw [List.range_add, List.map_append, List.map_map]
  rfl
theorem dgs_low (L g : Nat) : dgs L (4 + g) (g + 4) = dgs L (4 + g) g ++ lowB (L % 4294967296) := by
  rw [dgs_add]
  congr 1
  unfold lowB dg
  simp only [List.range_succ, List.range_zero, List.nil_append, List.map_cons, List.map_nil, List.cons_append]
  rw [show 4 + g - 1 - (g + 0) = 3 by omega, show 4 + g - 1 - (g + 1) = 2 by omega, show 4 + g - 1 - (g + 2) = 1 by omega, show 4 + g - 1 - (g + 3) = 0 by omega]
  simp only [Nat.reducePow, Nat.div_one]
  rw [show L % 4294967296 / 16777216 = L / 16777216 % 256 by omega, show L % 4294967296 / 65536 % 256 = L / 65536 % 256 by omega, show L % 4294967296 / 256 % 256 = L / 256 % 256 by omega, show L % 4294967296 % 256 = L % 256 by omega]

def zeros (l : List UInt8) : Prop := ∀ b ∈ l, b = 0
theorem trim_zero_end (l : List UInt8) : Lib.trimRightB (l ++ [0]) 0 = Lib.trimRightB l 0 := by
  unfold Lib.trimRightB
  rw [List.reverse_append]
  simp
theorem trim_other_end (l : List UInt8) {b : UInt8} (h : b ≠ 0) : Lib.trimRightB (l ++ [b]) 0 = l ++ [b] := by
  unfold Lib.trimRightB
  rw [List.reverse_append]
  simp [h]
theorem snoc_cases {α : Type} (l : List α) : l = [] ∨ ∃ m b, l = m ++ [b] := by
  rcases List.eq_nil_or_concat l with h | ⟨m, b, h⟩
  · exact .inl h
  · exact .inr ⟨m, b, by rw [h, List.concat_eq_append]⟩
theorem trim_zeros : ∀ (n : Nat) (l1 l2 : List UInt8), l2.length = n → zeros l2 → Lib.trimRightB (l1 ++ l2) 0 = Lib.trimRightB l1 0
  | 0, l1, l2, hn, _ => by
    have : l2 = [] := List.eq_nil_of_length_eq_zero hn
    rw [this, List.append_nil]
  | n + 1, l1, l2, hn, hz => by
    rcases snoc_cases l2 with rfl | ⟨m, b, rfl⟩
    · simp at hn
    · have hb : b = 0 := hz b (by simp)
      subst hb
      rw [← List.append_assoc, trim_zero_end]
      exact trim_zeros n l1 m (by simpa using hn) fun c hc => hz c (by simp [hc])
theorem trim_le : ∀ (n : Nat) (l : List UInt8), l.length = n → (Lib.trimRightB l 0).length ≤ l.length
  | 0, l, hn => by
    have : l = [] := List.eq_nil_of_length_eq_zero hn
    subst this
    exact Nat.le_refl _
  | n + 1, l, hn => by
    rcases snoc_cases l with rfl | ⟨m, b, rfl⟩
    · simp at hn
    · by_cases hb : b = 0
      · subst hb
        rw [trim_zero_end]
        have := trim_le n m (by simpa using hn)
        simp; omega
      · rw [trim_other_end _ hb]
        exact Nat.le_refl _
theorem trim_long : ∀ (n : Nat) (l1 l2 : List UInt8), l2.length = n → ¬ zeros l2 → l1.length < (Lib.trimRightB (l1 ++ l2) 0).length
  | 0, l1, l2, hn, h => by
    have : l2 = [] := List.eq_nil_of_length_eq_zero hn
    subst this
    exact absurd (fun b hb => by cases hb) h
  | n + 1, l1, l2, hn, h => by
    rcases snoc_cases l2 with rfl | ⟨m, b, rfl⟩
    · simp at hn
    · rw [← List.append_assoc]
      by_cases hb : b = 0
      · subst hb
        rw [trim_zero_end]
        refine trim_long n l1 m (by simpa using hn) fun hm => h fun c hc => ?_
        rcases List.mem_append.1 hc with hc | hc
        · exact hm c hc
        · simpa using hc
      · rw [trim_other_end _ hb]
        simp
/-- What stands at a place is the same without the zero bytes at the end. -/
theorem trim_getD : ∀ (n : Nat) (l : List UInt8), l.length = n → ∀ i, (Lib.trimRightB l 0).getD i 0 = l.getD i 0
  | 0, l, hn, i => by
    have : l = [] := List.eq_nil_of_length_eq_zero hn
    subst this
    rfl
  | n + 1, l, hn, i => by
    rcases snoc_cases l with rfl | ⟨m, b, rfl⟩
    · simp at hn
    · by_cases hb : b = 0
      · subst hb
        rw [trim_zero_end, trim_getD n m (by simpa using hn) i]
        simp only [List.getD_eq_getElem?_getD]
        by_cases hi : i < m.length
        · rw [List.getElem?_append_left hi]
        · rw [List.getElem?_append_right (by omega), List.getElem?_eq_none (by omega)]
          by_cases h0 : i - m.length = 0
          · rw [h0]; rfl
          · rw [List.getElem?_eq_none (by simp; omega)]
      · rw [trim_other_end _ hb]

theorem mid_zeros {size : Nat} {x : St} (hg : size < x.g) : (zeros ((List.range (x.g - size)).map fun i => UInt8.ofNat (dg x.L (4 + x.g) (size + i)))) ↔ mid size x = 0 := by
  have key : ∀ (k P : Nat), (∀ i, i < k → P / 256 ^ (k - 1 - i) % 256 = 0) ↔ P % 256 ^ k = 0 := by
    intro k
    induction k with
    | zero => intro P; simp [Nat.mod_one]
    | succ k ih =>
      intro P
      have h1 : P % 256 ^ (k + 1) = P % 256 + 256 * (P / 256 % 256 ^ k) := by rw [Nat.pow_succ, Nat.mul_comm, Nat.mod_mul]
      rw [h1]
      have h2 := ih (P / 256)
      constructor
      · intro h
        have h3 := h k (by omega)
        rw [show k + 1 - 1 - k = 0 by omega, Nat.pow_zero, Nat.div_one] at h3
        have h4 : P / 256 % 256 ^ k = 0 := h2.1 fun i hi => by
          have := h i (by omega)
          rw [Nat.div_div_eq_div_mul, ← Nat.pow_succ', show (k - 1 - i).succ = k + 1 - 1 - i by omega]
          exact this
        omega
      · intro h i hi
        have h4 : P / 256 % 256 ^ k = 0 := by omega
        by_cases e : i = k
        · subst e
          rw [show i + 1 - 1 - i = 0 by omega, Nat.pow_zero, Nat.div_one]
          omega
        · have := h2.2 h4 i (by omega)
          rw [Nat.div_div_eq_div_mul, ← Nat.pow_succ', show (k - 1 - i).succ = k + 1 - 1 - i by omega] at this
          exact this
  unfold mid zeros
  rw [← key (x.g - size) (x.L / 4294967296)]
  have e : ∀ i, i < x.g - size → dg x.L (4 + x.g) (size + i) = x.L / 4294967296 / 256 ^ (x.g - size - 1 - i) % 256 := fun i hi => by
    unfold dg
    rw [show 4 + x.g - 1 - (size + i) = 4 + (x.g - size - 1 - i) by omega, Nat.pow_add, ← Nat.div_div_eq_div_mul]
  constructor
  · intro h i hi
    have := h (UInt8.ofNat (dg x.L (4 + x.g) (size + i))) (List.mem_map.2 ⟨i, by simpa using hi, rfl⟩)
    rw [← e i hi]
    have h2 : (UInt8.ofNat (dg x.L (4 + x.g) (size + i))).toNat = 0 := by rw [this]; rfl
    rw [UInt8.toNat_ofNat'] at h2
    have := dg_lt x.L (4 + x.g) (size + i)
    omega
  · intro h b hb
    obtain ⟨i, hi, rfl⟩ := List.mem_map.1 hb
    rw [e i (by simpa using hi), h i (by simpa using hi)]
    rfl

theorem all_mid {size : Nat} {x : St} (hg : size < x.g) : x.all = dgs x.L (4 + x.g) size ++ ((List.range (x.g - size)).map fun i => UInt8.ofNat (dg x.L (4 + x.g) (size + i))) ++ lowB (x.L % 4294967296) := by
  unfold St.all
  rw [show dgs x.L (4 + x.g) (4 + x.g) = dgs x.L (4 + x.g) (x.g + 4) by rw [Nat.add_comm], dgs_low]
  congr 1
  rw [← dgs_add, show size + (x.g - size) = x.g by omega]

theorem zeros_append {a b : List UInt8} : zeros (a ++ b) ↔ zeros a ∧ zeros b := by
  unfold zeros
  constructor
  · intro h
    exact ⟨fun c hc => h c (by simp [hc]), fun c hc => h c (by simp [hc])⟩
  · intro h c hc
    rcases List.mem_append.1 hc with hc | hc
    · exact h.1 c hc
    · exact h.2 c hc

/-- What the coder asks for is whether all bytes fit; and what it hands back is them. -/
theorem done_spec {size low rest : Nat} {x : St} {bs : List UInt8} (h : Rep size x low bs rest) :
    ((rest = 2 ∨ rest = 3 ∨ size < (Lib.trimRightB (bs ++ lowB low) 0).length) ↔ size < x.trim.length) ∧ (x.trim.length ≤ size → Lib.trimRightB (bs ++ lowB low) 0 = x.trim) := by
  obtain ⟨h1, h2, h3⟩ := h
  unfold St.trim
  unfold restOk at h3
  rcases h3 with ⟨h3, h4⟩ | ⟨h3, h4⟩
  · have e : bs ++ lowB low = x.all := by
      unfold St.all
      rw [h2, Nat.min_eq_left h4, h1, ← dgs_low, Nat.add_comm 4]
    rw [e]
    exact ⟨by omega, fun _ => rfl⟩
  · have hb : bs.length = size := by rw [h2, dgs_length]; omega
    rw [all_mid h3, ← h1]
    rw [Nat.min_eq_right (by omega)] at h2
    rw [← h2]
    have hz := mid_zeros h3
    generalize (List.range (x.g - size)).map (fun i => UInt8.ofNat (dg x.L (4 + x.g) (size + i))) = Z at *
    by_cases h0 : mid size x = 0
    · have hrest : rest = 1 := by
        rcases h4 with h4 | h4 | h4
        · exact h4.1
        · rw [h0] at h4
          have := Nat.pow_le_pow_right (n := 256) (by omega) (show 1 ≤ x.g - size by omega)
          omega
        · exact absurd h0 h4.2.1
      have hZ := hz.2 h0
      by_cases hl : zeros (lowB low)
      · rw [List.append_assoc, trim_zeros _ bs (Z ++ lowB low) rfl (zeros_append.2 ⟨hZ, hl⟩), trim_zeros _ bs (lowB low) rfl hl]
        have := trim_le _ bs rfl
        exact ⟨by omega, fun _ => rfl⟩
      · have l1 := trim_long _ bs (lowB low) rfl hl
        have l2 := trim_long _ bs (Z ++ lowB low) rfl fun hh => hl (zeros_append.1 hh).2
        rw [← List.append_assoc] at l2
        exact ⟨by omega, fun hh => by omega⟩
    · have l2 := trim_long _ bs (Z ++ lowB low) rfl fun hh => h0 (hz.1 (zeros_append.1 hh).1)
      rw [← List.append_assoc] at l2
      have hrest : rest = 2 ∨ rest = 3 := by
        rcases h4 with h4 | h4 | h4
        · exact absurd h4.2 h0
        · exact .inl h4.1
        · exact .inr h4.1
      exact ⟨by omega, fun hh => by omega⟩

/-- A coder's bytes, place by place. -/
theorem text_byte (x : St) (size i : Nat) : ((x.text size).getD i 0).toNat = digit x.L x.g i := by
  have h1 : (x.text size).getD i 0 = x.all.getD i 0 := by
    rw [← trim_getD _ x.all rfl i]
    unfold St.text St.trim
    simp only [List.getD_eq_getElem?_getD]
    by_cases hi : i < (Lib.trimRightB x.all 0).length
    · rw [List.getElem?_append_left hi]
    · rw [List.getElem?_append_right (by omega), List.getElem?_eq_none (l := Lib.trimRightB x.all 0) (by omega), List.getElem?_replicate]
      split <;> rfl
  rw [h1]
  unfold St.all
  simp only [List.getD_eq_getElem?_getD]
  by_cases hi : i < 4 + x.g
  · rw [dgs_get _ _ _ _ hi, digit_dg hi]
    simp only [Option.getD_some]
    rw [UInt8.toNat_ofNat']
    have := dg_lt x.L (4 + x.g) i
    omega
  · rw [List.getElem?_eq_none (by rw [dgs_length]; omega)]
    unfold digit
    rw [if_neg hi]
    rfl
theorem trim_len (x : St) : x.trim.length ≤ 4 + x.g := by
  unfold St.trim
  have := trim_le _ x.all rfl
  unfold St.all at this ⊢
  rw [dgs_length] at this
  exact this
theorem text_length {x : St} {size : Nat} (h : x.trim.length ≤ size) : (x.text size).length = size := by
  unfold St.text
  simp; omega
end Go.Proofs.YtfohinlldchdpaaGreatDoor.Rg
end
