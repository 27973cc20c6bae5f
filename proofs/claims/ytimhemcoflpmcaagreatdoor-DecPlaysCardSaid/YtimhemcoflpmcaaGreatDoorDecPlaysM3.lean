/- Texts of the walk, one behind the other. -/
import Derived.Lib.BitFns
import Derived.Test.YtimhemcoflpmcaaGreatDoorRgMath

section
/- The two powers that a number's length stands between. -/
namespace Go.Proofs.YtimhemcoflpmcaaGreatDoor.Rg

set_option linter.unusedVariables false

theorem bl_spec : ∀ (f x : Nat), f ≤ 64 → x < 2 ^ f → x < 2 ^ Lib.bitLen x ∧ Lib.bitLen x ≤ f ∧ (x ≠ 0 → 1 ≤ Lib.bitLen x ∧ 2 ^ (Lib.bitLen x - 1) ≤ x)
  | 0, x, _, h => by
    obtain rfl : x = 0 := by simp at h; omega
    have hz : Lib.bitLen 0 = 0 := by decide
    rw [hz]; simp
  | f + 1, x, hf, h => by
    by_cases h0 : x = 0
    · subst h0
      have hz : Lib.bitLen 0 = 0 := by decide
      rw [hz]; simp
    · have h64 : x < 2 ^ 64 := Nat.lt_of_lt_of_le h (Nat.pow_le_pow_right (by omega) hf)
      have hh := Lib.bitLen_half x h0 h64
      obtain ⟨i1, i2, i3⟩ := bl_spec f (x / 2) (by omega) (by rw [Nat.pow_succ] at h; omega)
      rw [hh]
      refine ⟨by rw [Nat.add_comm, Nat.pow_succ]; omega, by omega, fun _ => ⟨by omega, ?_⟩⟩
      rw [show 1 + Lib.bitLen (x / 2) - 1 = Lib.bitLen (x / 2) by omega]
      by_cases h1 : x / 2 = 0
      · have hz : Lib.bitLen 0 = 0 := by decide
        rw [h1, hz]; simp; omega
      · obtain ⟨j1, j2⟩ := i3 h1
        rw [show Lib.bitLen (x / 2) = Lib.bitLen (x / 2) - 1 + 1 by omega, Nat.pow_succ]; omega
end Go.Proofs.YtimhemcoflpmcaaGreatDoor.Rg
end

section
/- Plain mathematics of a range coder, second part: used bits, and how they grow. -/
namespace Go.Proofs.YtimhemcoflpmcaaGreatDoor.Rg

theorem bl_lt {x k : Nat} (hx : x < 2 ^ 64) (hk : k ≤ 64) : Lib.bitLen x ≤ k ↔ x < 2 ^ k :=
  ⟨fun h => Nat.lt_of_lt_of_le (bl_spec 64 x (Nat.le_refl _) hx).1 (Nat.pow_le_pow_right (by omega) h), fun h => Lib.bitLen_le x k hk h⟩
theorem bl_mono {x y : Nat} (h : x ≤ y) (hy : y < 2 ^ 64) : Lib.bitLen x ≤ Lib.bitLen y := by
  have h1 := bl_spec 64 y (Nat.le_refl _) hy
  exact (bl_lt (Nat.lt_of_le_of_lt h hy) h1.2.1).2 (Nat.lt_of_le_of_lt h h1.1)
theorem bl_mul {q k : Nat} (h0 : 1 ≤ q) (h : q * 2 ^ k < 2 ^ 64) : Lib.bitLen (q * 2 ^ k) = k + Lib.bitLen q := by
  have hp : 0 < 2 ^ k := Nat.pow_pos (by omega)
  have := Lib.bitLen_shift k (q * 2 ^ k) (Nat.le_mul_of_pos_left _ (by omega)) h
  rw [Nat.mul_div_cancel _ hp] at this
  exact this
theorem pow256 (k : Nat) : 256 ^ k = 2 ^ (8 * k) := by rw [Nat.pow_mul]

/-- Bits that are used. -/
def St.used (x : St) : Int := 8 * (x.g : Int) + 32 - (Lib.bitLen x.r : Nat)
theorem used_put {x : St} {c : Cl} (hx : x.ok) (hc : c.ok) : (x.put c).used = 8 * (x.g : Int) + 32 - (Lib.bitLen (x.r / c.t * c.w) : Nat) := by
  obtain ⟨b1, b2, b3, b4⟩ := step_bd hx hc
  obtain ⟨q1, q2⟩ := sh_spec b3 b4
  have eg : (x.put c).g = x.g + sh (x.r / c.t * c.w) := rfl
  have er : (x.put c).r = x.r / c.t * c.w * 256 ^ sh (x.r / c.t * c.w) := rfl
  unfold St.used
  rw [eg, er, pow256, bl_mul b3 (by rw [← pow256]; omega)]
  omega
theorem used_more {x : St} {c : Cl} (hx : x.ok) (hc : c.ok) : x.used ≤ (x.put c).used := by
  obtain ⟨b1, b2, b3, b4⟩ := step_bd hx hc
  have h2 := hx.2.1
  rw [used_put hx hc]
  have := bl_mono (x := x.r / c.t * c.w) (y := x.r) (by omega) (by omega)
  unfold St.used
  omega
theorem used_share {x : St} {c : Cl} {j : Nat} (hx : x.ok) (hc : c.ok) (hj : c.t ≤ c.w * 2 ^ j) : (x.put c).used ≤ x.used + j + 2 := by
  obtain ⟨b1, b2, b3, b4⟩ := step_bd hx hc
  obtain ⟨h1, h2, _⟩ := hx
  rw [used_put ⟨h1, h2, ‹_›⟩ hc]
  unfold St.used
  have hr := (bl_lt (x := x.r) (k := 32) (by omega) (by omega)).2 (by omega)
  by_cases h30 : 30 ≤ j
  · omega
  · obtain ⟨t1, t2, w1, _⟩ := hc
    have e1 := Nat.div_add_mod x.r c.t
    have e2 := Nat.mod_lt x.r (show c.t > 0 by omega)
    have e3 : x.r / c.t * c.t ≤ x.r / c.t * (c.w * 2 ^ j) := Nat.mul_le_mul_left _ hj
    rw [Nat.mul_comm c.t] at e1
    rw [← Nat.mul_assoc] at e3
    have e4 : x.r ≤ x.r / c.t * c.w * 2 ^ (j + 1) := by rw [Nat.pow_succ, ← Nat.mul_assoc]; omega
    have p1 : 2 ^ (j + 1) ≤ 2 ^ 30 := Nat.pow_le_pow_right (by omega) (by omega)
    have p2 : x.r / c.t * c.w * 2 ^ (j + 1) < 2 ^ 64 := Nat.lt_of_le_of_lt (Nat.mul_le_mul b4 p1) (by omega)
    have m := bl_mono e4 p2
    rw [bl_mul b3 p2] at m
    omega
/-- The share is found by halving upward. -/
theorem half_up {t j u : Nat} (h : t ≤ u * 2 ^ j) : t ≤ (u + 1) / 2 * 2 ^ (j + 1) := by
  rw [Nat.pow_succ, Nat.mul_comm (2 ^ j) 2, ← Nat.mul_assoc]
  exact Nat.le_trans h (Nat.mul_le_mul_right _ (by omega))
/-- Used bits of coders that a list of cells makes are at least 0. -/
theorem used_nonneg {x : St} (hx : x.ok) : 0 ≤ x.used := by
  have := (bl_lt (x := x.r) (k := 32) (by have := hx.2.1; omega) (by omega)).2 (by have := hx.2.1; omega)
  unfold St.used
  omega
/-- How far cells go: no more than two bytes a cell. -/
theorem put_g {x : St} {c : Cl} (hx : x.ok) (hc : c.ok) : (x.put c).g ≤ x.g + 2 := by
  obtain ⟨b1, b2, b3, b4⟩ := step_bd hx hc
  show x.g + sh (x.r / c.t * c.w) ≤ x.g + 2
  have : 256 ≤ x.r / c.t * c.w := Nat.le_trans (show 256 ≤ x.r / c.t by omega) (Nat.le_mul_of_pos_right _ hc.2.2.1)
  unfold sh
  split <;> (try split) <;> (try split) <;> omega
theorem run_g_le : ∀ {l : List Cl} {x : St}, x.ok → (∀ c ∈ l, c.ok) → (x.run l).g ≤ x.g + 2 * l.length
  | [], _, _, _ => Nat.le_refl _
  | c :: l, x, hx, hl => by
    have hc := hl c (by simp)
    have h1 := put_g hx hc
    have h2 := run_g_le (l := l) (x := x.put c) (put_ok hx hc) fun d hd => hl d (by simp [hd])
    show ((x.put c).run l).g ≤ _
    simp only [List.length_cons]
    omega
theorem run_snoc (x : St) (l : List Cl) (c : Cl) : x.run (l ++ [c]) = (x.run l).put c := by unfold St.run; rw [List.foldl_append]; rfl
theorem run_append (x : St) (l m : List Cl) : x.run (l ++ m) = (x.run l).run m := by unfold St.run; rw [List.foldl_append]
end Go.Proofs.YtimhemcoflpmcaaGreatDoor.Rg
end

section
/- Plain mathematics of a range coder, third part: a number's bytes, a number added to them with a carry, zero bytes behind. -/
namespace Go.Proofs.YtimhemcoflpmcaaGreatDoor.Rg

/-- The byte number i of L, in n bytes, the highest first. -/
def dg (L n i : Nat) : Nat := L / 256 ^ (n - 1 - i) % 256
theorem dg_lt (L n i : Nat) : dg L n i < 256 := Nat.mod_lt _ (by omega)
theorem digit_dg {N G i : Nat} (h : i < 4 + G) : digit N G i = dg N (4 + G) i := by
  unfold digit dg
  rw [if_pos h, show 4 + G - 1 - i = 3 + G - i by omega]

/-- What is carried, and still to be added, where the k lowest bytes are done. -/
def cr (L a k : Nat) : Nat := (L % 256 ^ k + a) / 256 ^ k
theorem cr_zero (L a : Nat) : cr L a 0 = a := by unfold cr; simp [Nat.mod_one]
theorem cr_split (L k : Nat) : L % 256 ^ (k + 1) = L / 256 ^ k % 256 * 256 ^ k + L % 256 ^ k := by
  rw [Nat.pow_succ, Nat.mod_mul, Nat.mul_comm (256 ^ k)]; omega
theorem cr_next (L a k : Nat) : cr L a (k + 1) = (cr L a k + L / 256 ^ k % 256) / 256 := by
  unfold cr
  rw [cr_split, Nat.pow_succ, ← Nat.div_div_eq_div_mul]
  have hp : 0 < 256 ^ k := Nat.pow_pos (by omega)
  generalize L / 256 ^ k % 256 = d
  generalize L % 256 ^ k = m
  generalize 256 ^ k = p at *
  rw [show d * p + m + a = m + a + p * d by rw [Nat.mul_comm p]; omega, Nat.add_mul_div_left _ _ hp]
theorem cr_digit (L a k : Nat) : (cr L a k + L / 256 ^ k % 256) % 256 = (L + a) / 256 ^ k % 256 := by
  unfold cr
  have hp : 0 < 256 ^ k := Nat.pow_pos (by omega)
  have e := Nat.div_add_mod L (256 ^ k)
  generalize hq : L / 256 ^ k = q at *
  generalize L % 256 ^ k = m at *
  generalize 256 ^ k = p at *
  rw [show L + a = m + a + p * q by omega, Nat.add_mul_div_left _ _ hp]
  omega
theorem cr_end {L a n : Nat} (h : L + a < 256 ^ n) : cr L a n = 0 := by
  unfold cr
  rw [Nat.mod_eq_of_lt (by omega)]
  exact Nat.div_eq_of_lt h
theorem cr_dg {L a n i : Nat} : (cr L a (n - 1 - i) + dg L n i) % 256 = dg (L + a) n i := cr_digit L a (n - 1 - i)
theorem cr_up {L a n i : Nat} (hi : i < n) : cr L a (n - i) = (cr L a (n - 1 - i) + dg L n i) / 256 := by
  have := cr_next L a (n - 1 - i)
  rw [show n - 1 - i + 1 = n - i by omega] at this
  exact this
theorem cr_le (L a k : Nat) : cr L a k ≤ a := by
  unfold cr
  have hp : 0 < 256 ^ k := Nat.pow_pos (by omega)
  by_cases h : a = 0
  · subst h
    rw [Nat.add_zero, Nat.div_eq_of_lt (Nat.mod_lt _ hp)]
    omega
  · have hm := Nat.mod_lt L hp
    have : (L % 256 ^ k + a) / 256 ^ k < a + 1 := by
      rw [Nat.div_lt_iff_lt_mul hp, Nat.add_mul, Nat.one_mul]
      have := Nat.le_mul_of_pos_right a hp
      omega
    omega

/-- Zero bytes behind. -/
theorem dg_shift {L n k i : Nat} (h2 : i < n + k) : dg (L * 256 ^ k) (n + k) i = if i < n then dg L n i else 0 := by
  unfold dg
  have hp : ∀ m, 0 < 256 ^ m := fun m => Nat.pow_pos (by omega)
  by_cases h : i < n
  · rw [if_pos h, show n + k - 1 - i = k + (n - 1 - i) by omega, Nat.pow_add, ← Nat.div_div_eq_div_mul, Nat.mul_div_cancel _ (hp k)]
  · rw [if_neg h]
    rw [show k = (n + k - 1 - i) + (k - (n + k - 1 - i)) by omega, Nat.pow_add, show n + (n + k - 1 - i + (k - (n + k - 1 - i))) - 1 - i = n + k - 1 - i by omega]
    rw [← Nat.mul_assoc, Nat.mul_right_comm, Nat.mul_div_cancel _ (hp _), show k - (n + k - 1 - i) = (k - (n + k - 1 - i) - 1) + 1 by omega, Nat.pow_succ, ← Nat.mul_assoc, Nat.mul_mod_left]
end Go.Proofs.YtimhemcoflpmcaaGreatDoor.Rg
end

section
/- Plain mathematics of the numbers' cells: widths, starts, whose cell a place lies in, costs. -/
set_option maxRecDepth 100000
namespace Go.Proofs.YtimhemcoflpmcaaGreatDoor.Lp
open Go.Proofs.YtimhemcoflpmcaaGreatDoor.Rg

/-- The width of k and of -k. -/
def wd (k : Nat) : Nat := if k = 0 then 12568 else max (5000 / 2 ^ (k - 1)) 8
/-- What is left of 2^15 ahead of k's width. -/
def rest : Nat → Nat
  | 0 => 32768
  | 1 => 32768
  | k + 2 => rest (k + 1) - 2 * wd (k + 1)
/-- The number at place i of the order, its width, its start. -/
def nI (i : Nat) : Nat := (i + 1) / 2
def vI (i : Nat) : Int := if i % 2 = 1 then (nI i : Int) else -(nI i : Int)
def wI (i : Nat) : Nat := wd (nI i)
def sI : Nat → Nat
  | 0 => 0
  | i + 1 => sI i + wI i

theorem wd_ge {k : Nat} (h : k ≤ 24) : 8 ≤ wd k := by
  revert h; revert k; decide
theorem wd_le (k : Nat) : wd k ≤ 12568 := by
  unfold wd
  split
  · omega
  · have := Nat.div_le_self 5000 (2 ^ (k - 1)); omega
theorem rest_all {k : Nat} (h : k ≤ 24) : rest (k + 1) = 12568 + 2 * ((List.range (25 - (k + 1))).map fun j => wd (k + 1 + j)).sum ∧ rest (k + 1) ≤ 32768 := by
  revert h; revert k; decide +kernel
theorem rest_le {k : Nat} (h : k ≤ 25) : 12568 ≤ rest k ∧ rest k ≤ 32768 := by
  revert h; revert k; decide +kernel
theorem rest_next {k : Nat} (h1 : 1 ≤ k) (h : k ≤ 24) : rest (k + 1) + 2 * wd k = rest k := by
  revert h1; revert h; revert k; decide +kernel
theorem rest_end : rest 25 = 12568 := by decide +kernel
theorem sI_end : sI 49 = 32768 := by decide +kernel
theorem sI_le {i : Nat} (h : i ≤ 49) : sI i ≤ 32768 := by
  revert h; revert i; decide +kernel
theorem sw_le {i : Nat} (h : i < 49) : sI i + wI i ≤ 32768 := sI_le (i := i + 1) (by omega)
theorem wI_ge {i : Nat} (h : i < 49) : 8 ≤ wI i := wd_ge (by unfold nI; omega)
theorem sI_lt {i j : Nat} (h : i < j) : sI i + wI i ≤ sI j := by
  obtain ⟨d, rfl⟩ : ∃ d, j = i + 1 + d := ⟨j - (i + 1), by omega⟩
  clear h
  induction d with
  | zero => exact Nat.le_refl _
  | succ d ih => exact Nat.le_trans ih (Nat.le_add_right _ _)

/-- The place of a number in the order. -/
def iV (v : Int) : Nat := if 0 < v then 2 * v.natAbs - 1 else 2 * v.natAbs
theorem vI_iV (v : Int) : vI (iV v) = v := by
  unfold vI nI iV
  split <;> split <;> omega
theorem iV_vI (i : Nat) : iV (vI i) = i := by
  unfold vI nI iV
  split <;> split <;> omega
theorem iV_lt {v : Int} : iV v < 49 ↔ -24 ≤ v ∧ v ≤ 24 := by
  unfold iV
  split <;> omega
theorem nI_iV (v : Int) : nI (iV v) = v.natAbs := by
  unfold nI iV
  split <;> omega

/-- Whose cell a place lies in: the place in the order. -/
def fI (p : Nat) : Nat := ((List.range 49).find? fun i => decide (p < sI i + wI i)).getD 0
theorem fI_spec {p : Nat} (h : p < 32768) : fI p < 49 ∧ p < sI (fI p) + wI (fI p) ∧ ∀ i, i < fI p → sI i + wI i ≤ p := by
  unfold fI
  cases e : (List.range 49).find? fun i => decide (p < sI i + wI i) with
  | none =>
    rw [List.find?_eq_none] at e
    have := e 48 (by simp)
    have h2 : sI 48 + wI 48 = 32768 := by decide +kernel
    simp only [h2, decide_eq_true_eq] at this
    exact absurd h this
  | some i =>
    rw [List.find?_range_eq_some] at e
    obtain ⟨e1, e2, e3⟩ := e
    refine ⟨by simpa using e2, by simpa using e1, fun j hj => ?_⟩
    have := e3 j hj
    simp only [Bool.not_eq_eq_eq_not, Bool.not_true, decide_eq_false_iff_not, Nat.not_lt] at this
    exact this
theorem fI_ge {p : Nat} (h : p < 32768) : sI (fI p) ≤ p := by
  obtain ⟨_, _, h3⟩ := fI_spec h
  cases e : fI p with
  | zero => exact Nat.zero_le _
  | succ i => exact h3 i (by omega)
theorem fI_eq {p i : Nat} (h : i < 49) (h1 : sI i ≤ p) (h2 : p < sI i + wI i) : fI p = i := by
  have hp : p < 32768 := Nat.lt_of_lt_of_le h2 (sw_le h)
  obtain ⟨f1, f2, f3⟩ := fI_spec hp
  have f4 := fI_ge hp
  rcases Nat.lt_trichotomy (fI p) i with c | c | c
  · have := sI_lt c; omega
  · exact c
  · have := sI_lt c; omega

/-- A number's cell. -/
def cl (v : Int) : Cl := ⟨sI (iV v), wI (iV v), 32768⟩
theorem cl_ok {v : Int} (h1 : -24 ≤ v) (h2 : v ≤ 24) : (cl v).ok := by
  have h := iV_lt.2 ⟨h1, h2⟩
  have h3 := sw_le h
  have h4 := wI_ge h
  exact ⟨by show 1 ≤ 32768; omega, Nat.le_refl _, by show 1 ≤ wI (iV v); omega, h3⟩

/-- How many bits a number takes, rounded up. -/
def cost (w : Nat) : Nat := ((List.range 16).find? fun n => decide (32768 / 2 ^ n ≤ w)).getD 15
theorem cost_spec {w : Nat} (h : 1 ≤ w) : cost w ≤ 15 ∧ 32768 / 2 ^ cost w ≤ w ∧ ∀ n, n < cost w → w < 32768 / 2 ^ n := by
  unfold cost
  cases e : (List.range 16).find? fun n => decide (32768 / 2 ^ n ≤ w) with
  | none =>
    rw [List.find?_eq_none] at e
    have := e 15 (by simp)
    simp only [decide_eq_true_eq] at this
    exact absurd (show 32768 / 2 ^ 15 ≤ w by omega) this
  | some i =>
    rw [List.find?_range_eq_some] at e
    obtain ⟨e1, e2, e3⟩ := e
    have e2' : i < 16 := by simpa using e2
    refine ⟨by simp only [Option.getD_some]; omega, by simpa using e1, fun j hj => ?_⟩
    have := e3 j hj
    simp only [Bool.not_eq_eq_eq_not, Bool.not_true, decide_eq_false_iff_not, Nat.not_le] at this
    exact this
theorem cost_all {w : Nat} (h : 1 ≤ w) : 32768 ≤ w * 2 ^ cost w := by
  obtain ⟨h1, h2, _⟩ := cost_spec h
  have e : 32768 = 32768 / 2 ^ cost w * 2 ^ cost w := by
    have : ∀ n, n ≤ 15 → 32768 = 32768 / 2 ^ n * 2 ^ n := by decide
    exact this _ h1
  calc 32768 = 32768 / 2 ^ cost w * 2 ^ cost w := e
    _ ≤ w * 2 ^ cost w := Nat.mul_le_mul_right _ h2

/-- Bits: a bound that grows with every cell by what it costs and one. -/
def Fits (x : St) (K : Nat) : Prop := 4294967296 * 256 ^ x.g ≤ x.r * 2 ^ K
theorem fits_new : Fits St.new 1 := by unfold Fits St.new; dsimp only; omega
theorem fits_put {x : St} {c : Cl} {j K : Nat} (hx : x.ok) (hc : c.ok) (h : Fits x K) (hj : c.t ≤ c.w * 2 ^ j) : Fits (x.put c) (K + j + 1) := by
  obtain ⟨b1, b2, b3, b4⟩ := step_bd hx hc
  obtain ⟨t1, t2, w1, e⟩ := hc
  unfold Fits at *
  show 4294967296 * 256 ^ (x.g + sh (x.r / c.t * c.w)) ≤ x.r / c.t * c.w * 256 ^ sh (x.r / c.t * c.w) * 2 ^ (K + j + 1)
  have hr : x.r ≤ 2 * (x.r / c.t) * (c.w * 2 ^ j) := by
    have h1 : x.r < (x.r / c.t + 1) * c.t := by
      have := Nat.lt_mul_div_succ x.r (show 0 < c.t by omega)
      rwa [Nat.mul_comm] at this
    have h2 : (x.r / c.t + 1) * c.t ≤ 2 * (x.r / c.t) * c.t := Nat.mul_le_mul_right _ (by omega)
    have h3 : 2 * (x.r / c.t) * c.t ≤ 2 * (x.r / c.t) * (c.w * 2 ^ j) := Nat.mul_le_mul_left _ hj
    omega
  calc 4294967296 * 256 ^ (x.g + sh (x.r / c.t * c.w)) = 4294967296 * 256 ^ x.g * 256 ^ sh (x.r / c.t * c.w) := by rw [Nat.pow_add, Nat.mul_assoc]
    _ ≤ x.r * 2 ^ K * 256 ^ sh (x.r / c.t * c.w) := Nat.mul_le_mul_right _ h
    _ ≤ 2 * (x.r / c.t) * (c.w * 2 ^ j) * 2 ^ K * 256 ^ sh (x.r / c.t * c.w) := Nat.mul_le_mul_right _ (Nat.mul_le_mul_right _ hr)
    _ = x.r / c.t * c.w * 256 ^ sh (x.r / c.t * c.w) * 2 ^ (K + j + 1) := by
      rw [Nat.pow_add, Nat.pow_add, Nat.pow_one]
      ac_rfl
theorem fits_used {x : St} {K : Nat} (hx : x.ok) (h : Fits x K) : x.used + 1 ≤ K := by
  have hr := hx.2.1
  have hb := (bl_spec 64 x.r (Nat.le_refl _) (by omega)).1
  unfold Fits at h
  have h1 : 2 ^ (32 + 8 * x.g) < 2 ^ (Lib.bitLen x.r + K) := by
    rw [Nat.pow_add, Nat.pow_add, ← pow256]
    exact Nat.lt_of_le_of_lt h (Nat.mul_lt_mul_of_pos_right hb (Nat.pow_pos (by omega)))
  have h2 : 32 + 8 * x.g < Lib.bitLen x.r + K := (Nat.pow_lt_pow_iff_right (by omega)).1 h1
  unfold St.used
  omega
end Go.Proofs.YtimhemcoflpmcaaGreatDoor.Lp
end
