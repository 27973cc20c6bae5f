/- Plain mathematics of the numbers' cells: widths, starts, whose cell a place lies in, costs. -/
import Derived.Test.YtidbagkkkpfkbaaDoorRgMath2
set_option maxRecDepth 100000
namespace Go.Proofs.YtidbagkkkpfkbaaDoor.Lp
open Go.Proofs.YtidbagkkkpfkbaaDoor.Rg

/-- The width of k and of -k. -/
def wd (k : Nat) : Nat := if k = 0 then 12568 else max (5000 / 2 ^ (k - 1)) 8
/-- What is left of 2^15 ahead of k's width. -/
def rest : Nat → Nat
  | 0 => 32768
  | 1 => 32768
  | k + 2 => rest (k + 1) - 2 * wd (k + 1)
/-- The number at place i of the order, its width, its start. -/
def nI (i : Nat) : Nat := (i + 1) / 2
def vI (i : Nat) : Int := if i % 2 = 1 then (nI i : Int) else -(nI i : Int)
def wI (i : Nat) : Nat := wd (nI i)
def sI : Nat → Nat
  | 0 => 0
  | i + 1 => sI i + wI i

theorem wd_ge {k : Nat} (h : k ≤ 24) : 8 ≤ wd k := by
  revert h; revert k; decide
theorem wd_le (k : Nat) : wd k ≤ 12568 := by
  unfold wd
  split
  · omega
  · have := Nat.div_le_self 5000 (2 ^ (k - 1)); omega
theorem rest_all {k : Nat} (h : k ≤ 24) : rest (k + 1) = 12568 + 2 * ((List.range (25 - (k + 1))).map fun j => wd (k + 1 + j)).sum ∧ rest (k + 1) ≤ 32768 := by
  revert h; revert k; decide +kernel
theorem rest_le {k : Nat} (h : k ≤ 25) : 12568 ≤ rest k ∧ rest k ≤ 32768 := by
  revert h; revert k; decide +kernel
theorem rest_next {k : Nat} (h1 : 1 ≤ k) (h : k ≤ 24) : rest (k + 1) + 2 * wd k = rest k := by
  revert h1; revert h; revert k; decide +kernel
theorem rest_end : rest 25 = 12568 := by decide +kernel
theorem sI_end : sI 49 = 32768 := by decide +kernel
theorem sI_le {i : Nat} (h : i ≤ 49) : sI i ≤ 32768 := by
  revert h; revert i; decide +kernel
theorem sw_le {i : Nat} (h : i < 49) : sI i + wI i ≤ 32768 := sI_le (i := i + 1) (by omega)
theorem wI_ge {i : Nat} (h : i < 49) : 8 ≤ wI i := wd_ge (by unfold nI; omega)
theorem sI_lt {i j : Nat} (h : i < j) : sI i + wI i ≤ sI j := by
  obtain ⟨d, rfl⟩ : ∃ d, j = i + 1 + d := ⟨j - (i + 1), by omega⟩
  clear h
  induction d with
  | zero => exact Nat.le_refl _
  | succ d ih => exact Nat.le_trans ih (Nat.le_add_right _ _)

/-- The place of a number in the order. -/
def iV (v : Int) : Nat := if 0 < v then 2 * v.natAbs - 1 else 2 * v.natAbs
theorem vI_iV (v : Int) : vI (iV v) = v := by
  unfold vI nI iV
  split <;> split <;> omega
theorem iV_vI (i : Nat) : iV (vI i) = i := by
  unfold vI nI iV
  split <;> split <;> omega
theorem iV_lt {v : Int} : iV v < 49 ↔ -24 ≤ v ∧ v ≤ 24 := by
  unfold iV
  split <;> omega
theorem nI_iV (v : Int) : nI (iV v) = v.natAbs := by
  unfold nI iV
  split <;> omega

/-- Whose cell a place lies in: the place in the order. -/
def fI (p : Nat) : Nat := ((List.range 49).find? fun i => decide (p < sI i + wI i)).getD 0
theorem fI_spec {p : Nat} (h : p < 32768) : fI p < 49 ∧ p < sI (fI p) + wI (fI p) ∧ ∀ i, i < fI p → sI i + wI i ≤ p := by
  unfold fI
  cases e : (List.range 49).find? fun i => decide (p < sI i + wI i) with
  | none =>
    rw [List.find?_eq_none] at e
    have := e 48 (by simp)
    have h2 : sI 48 + wI 48 = 32768 := by decide +kernel
    simp only [h2, decide_eq_true_eq] at this
    exact absurd h this
  | some i =>
    rw [List.find?_range_eq_some] at e
    obtain ⟨e1, e2, e3⟩ := e
    refine ⟨by simpa using e2, by simpa using e1, fun j hj => ?_⟩
    have := e3 j hj
    simp only [Bool.not_eq_eq_eq_not, Bool.not_true, decide_eq_false_iff_not, Nat.not_lt] at this
    exact this
theorem fI_ge {p : Nat} (h : p < 32768) : sI (fI p) ≤ p := by
  obtain ⟨_, _, h3⟩ := fI_spec h
  cases e : fI p with
  | zero => exact Nat.zero_le _
  | succ i => exact h3 i (by omega)
theorem fI_eq {p i : Nat} (h : i < 49) (h1 : sI i ≤ p) (h2 : p < sI i + wI i) : fI p = i := by
  have hp : p < 32768 := Nat.lt_of_lt_of_le h2 (sw_le h)
  obtain ⟨f1, f2, f3⟩ := fI_spec hp
  have f4 := fI_ge hp
  rcases Nat.lt_trichotomy (fI p) i with c | c | c
  · have := sI_lt c; omega
  · exact c
  · have := sI_lt c; omega

/-- A number's cell. -/
def cl (v : Int) : Cl := ⟨sI (iV v), wI (iV v), 32768⟩
theorem cl_ok {v : Int} (h1 : -24 ≤ v) (h2 : v ≤ 24) : (cl v).ok := by
  have h := iV_lt.2 ⟨h1, h2⟩
  have h3 := sw_le h
  have h4 := wI_ge h
  exact ⟨by show 1 ≤ 32768; omega, Nat.le_refl _, by show 1 ≤ wI (iV v); omega, h3⟩

/-- How many bits a number takes, rounded up. -/
def cost (w : Nat) : Nat := ((List.range 16).find? fun n => decide (32768 / 2 ^ n ≤ w)).getD 15
theorem cost_spec {w : Nat} (h : 1 ≤ w) : cost w ≤ 15 ∧ 32768 / 2 ^ cost w ≤ w ∧ ∀ n, n < cost w → w < 32768 / 2 ^ n := by
  unfold cost
  cases e : (List.range 16).find? fun n => decide (32768 / 2 ^ n ≤ w) with
  | none =>
    rw [List.find?_eq_none] at e
    have := e 15 (by simp)
    simp only [decide_eq_true_eq] at this
    exact absurd (show 32768 / 2 ^ 15 ≤ w by omega) this
  | some i =>
    rw [List.find?_range_eq_some] at e
    obtain ⟨e1, e2, e3⟩ := e
    have e2' : i < 16 := by simpa using e2
    refine ⟨by simp only [Option.getD_some]; omega, by simpa using e1, fun j hj => ?_⟩
    have := e3 j hj
    simp only [Bool.not_eq_eq_eq_not, Bool.not_true, decide_eq_false_iff_not, Nat.not_le] at this
    exact this
theorem cost_all {w : Nat} (h : 1 ≤ w) : 32768 ≤ w * 2 ^ cost w := by
  obtain ⟨h1, h2, _⟩ := cost_spec h
  have e : 32768 = 32768 / 2 ^ cost w * 2 ^ cost w := by
    have : ∀ n, n ≤ 15 → 32768 = 32768 / 2 ^ n * 2 ^ n := by decide
    exact this _ h1
  calc 32768 = 32768 / 2 ^ cost w * 2 ^ cost w := e
    _ ≤ w * 2 ^ cost w := Nat.mul_le_mul_right _ h2

/-- Bits: a bound that grows with every cell by what it costs and one. -/
def Fits (x : St) (K : Nat) : Prop := 4294967296 * 256 ^ x.g ≤ x.r * 2 ^ K
theorem fits_new : Fits St.new 1 := by unfold Fits St.new; dsimp only; omega
theorem fits_put {x : St} {c : Cl} {j K : Nat} (hx : x.ok) (hc : c.ok) (h : Fits x K) (hj : c.t ≤ c.w * 2 ^ j) : Fits (x.put c) (K + j + 1) := by
  obtain ⟨b1, b2, b3, b4⟩ := step_bd hx hc
  obtain ⟨t1, t2, w1, e⟩ := hc
  unfold Fits at *
  show 4294967296 * 256 ^ (x.g + sh (x.r / c.t * c.w)) ≤ x.r / c.t * c.w * 256 ^ sh (x.r / c.t * c.w) * 2 ^ (K + j + 1)
  have hr : x.r ≤ 2 * (x.r / c.t) * (c.w * 2 ^ j) := by
    have h1 : x.r < (x.r / c.t + 1) * c.t := by
      have := Nat.lt_mul_div_succ x.r (show 0 < c.t by omega)
      rwa [Nat.mul_comm] at this
    have h2 : (x.r / c.t + 1) * c.t ≤ 2 * (x.r / c.t) * c.t := Nat.mul_le_mul_right _ (by omega)
    have h3 : 2 * (x.r / c.t) * c.t ≤ 2 * (x.r / c.t) * (c.w * 2 ^ j) := Nat.mul_le_mul_left _ hj
    omega
  calc 4294967296 * 256 ^ (x.g + sh (x.r / c.t * c.w)) = 4294967296 * 256 ^ x.g * 256 ^ sh (x.r / c.t * c.w) := by rw [Nat.pow_add, Nat.mul_assoc]
    _ ≤ x.r * 2 ^ K * 256 ^ sh (x.r / c.t * c.w) := Nat.mul_le_mul_right _ h
    _ ≤ 2 * (x.r / c.t) * (c.w * 2 ^ j) * 2 ^ K * 256 ^ sh (x.r / c.t * c.w) := Nat.mul_le_mul_right _ (Nat.mul_le_mul_right _ hr)
    _ = x.r / c.t * c.w * 256 ^ sh (x.r / c.t * c.w) * 2 ^ (K + j + 1) := by
      rw [Nat.pow_add, Nat.pow_add, Nat.pow_one]
      ac_rfl
theorem fits_used {x : St} {K : Nat} (hx : x.ok) (h : Fits x K) : x.used + 1 ≤ K := by
  have hr := hx.2.1
  have hb := (bl_spec 64 x.r (Nat.le_refl _) (by omega)).1
  unfold Fits at h
  have h1 : 2 ^ (32 + 8 * x.g) < 2 ^ (Lib.bitLen x.r + K) := by
    rw [Nat.pow_add, Nat.pow_add, ← pow256]
    exact Nat.lt_of_le_of_lt h (Nat.mul_lt_mul_of_pos_right hb (Nat.pow_pos (by omega)))
  have h2 : 32 + 8 * x.g < Lib.bitLen x.r + K := (Nat.pow_lt_pow_iff_right (by omega)).1 h1
  unfold St.used
  omega
end Go.Proofs.YtidbagkkkpfkbaaDoor.Lp
