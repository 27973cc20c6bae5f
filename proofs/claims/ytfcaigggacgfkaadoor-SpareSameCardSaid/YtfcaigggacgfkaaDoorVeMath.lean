/- Plain mathematics of pulse vectors: how many there are, how many begin with a number, a vector's number, the order. -/
import Derived.Lib.BitFns
namespace Go.Proofs.YtfcaigggacgfkaaDoor.Ve
set_option linter.unusedVariables false

/-- The first k of f's numbers, added. -/
def S (f : Nat → Nat) : Nat → Nat
  | 0 => 0
  | k + 1 => S f k + f k

/-- How many vectors of n numbers have k pulses. -/
def V : Nat → Nat → Nat
  | 0, k => if k = 0 then 1 else 0
  | n + 1, k => V n k + 2 * S (V n) k

theorem V_rec (n k : Nat) : V (n + 1) (k + 1) = V n (k + 1) + V (n + 1) k + V n k := by
  show V n (k + 1) + 2 * (S (V n) k + V n k) = V n (k + 1) + (V n k + 2 * S (V n) k) + V n k
  omega
theorem V_one : ∀ n, V n 0 = 1
  | 0 => rfl
  | n + 1 => by show V n 0 + 2 * 0 = 1; rw [V_one n]
theorem V_none (k : Nat) : V 0 (k + 1) = 0 := rfl
theorem V_end {k : Nat} (h : 0 < V 0 k) : k = 0 := by
  cases k with
  | zero => rfl
  | succ k => rw [V_none] at h; omega

theorem S_congr {f h : Nat → Nat} : ∀ {k : Nat}, (∀ j, j < k → f j = h j) → S f k = S h k
  | 0, _ => rfl
  | k + 1, e => by
    show S f k + f k = S h k + h k
    rw [S_congr (k := k) fun j hj => e j (by omega), e k (by omega)]
theorem S_mono (f : Nat → Nat) {a b : Nat} (h : a ≤ b) : S f a ≤ S f b := by
  obtain ⟨d, rfl⟩ : ∃ d, b = a + d := ⟨b - a, by omega⟩
  clear h
  induction d with
  | zero => exact Nat.le_refl _
  | succ d ih => exact Nat.le_trans ih (Nat.le_add_right _ _)
theorem S_le {f : Nat → Nat} {M : Nat} : ∀ {k : Nat}, (∀ j, j < k → f j ≤ M) → S f k ≤ k * M
  | 0, _ => Nat.zero_le _
  | k + 1, e => by
    have h1 := S_le (k := k) fun j hj => e j (by omega)
    have h2 := e k (by omega)
    show S f k + f k ≤ (k + 1) * M
    rw [Nat.succ_mul]; omega

theorem V_pow : ∀ n k, k ≤ 8 → V n k ≤ 17 ^ n
  | 0, k, _ => by unfold V; split <;> omega
  | n + 1, k, h => by
    have h1 := V_pow n k h
    have h2 : S (V n) k ≤ k * 17 ^ n := S_le fun j hj => V_pow n j (by omega)
    have h3 : k * 17 ^ n ≤ 8 * 17 ^ n := Nat.mul_le_mul_right _ h
    show V n k + 2 * S (V n) k ≤ 17 ^ (n + 1)
    rw [Nat.pow_succ]; omega
theorem V_le {n k : Nat} (hn : n ≤ 8) (hk : k ≤ 8) : V n k ≤ 6975757441 :=
  Nat.le_trans (V_pow n k hk) (Nat.le_trans (Nat.pow_le_pow_right (by omega) hn) (by decide))

/-- How many vectors of n + 1 numbers with k pulses begin with j - k. -/
def gV (n k j : Nat) : Nat := V n (k - ((j : Int) - k).natAbs)

theorem gV_low {n k j : Nat} (h : j ≤ k) : gV n k j = V n j := by
  unfold gV; rw [show k - ((j : Int) - k).natAbs = j by omega]
theorem gV_turn {n k j : Nat} (h : j ≤ 2 * k) : gV n k (2 * k - j) = gV n k j := by
  unfold gV; rw [show (((2 * k - j : Nat) : Int) - k).natAbs = ((j : Int) - k).natAbs by omega]
theorem low_S {n k m : Nat} (h : m ≤ k + 1) : S (gV n k) m = S (V n) m := S_congr fun j hj => gV_low (by omega)
theorem high_S (n k : Nat) : ∀ d, d ≤ k → S (gV n k) (k + 1 + d) + S (V n) (k - d) = V (n + 1) k
  | 0, _ => by
    show S (gV n k) (k + 1) + S (V n) k = V n k + 2 * S (V n) k
    rw [low_S (Nat.le_refl _)]
    show S (V n) k + V n k + S (V n) k = _
    omega
  | d + 1, h => by
    have ih := high_S n k d (by omega)
    have e : k - d = (k - (d + 1)) + 1 := by omega
    rw [e] at ih
    have e2 : gV n k (k + 1 + d) = V n (k - (d + 1)) := by unfold gV; rw [show k - (((k + 1 + d : Nat) : Int) - k).natAbs = k - (d + 1) by omega]
    show S (gV n k) (k + 1 + d) + gV n k (k + 1 + d) + S (V n) (k - (d + 1)) = _
    rw [e2]
    have : S (V n) (k - (d + 1) + 1) = S (V n) (k - (d + 1)) + V n (k - (d + 1)) := rfl
    omega
/-- The vectors, by what they begin with, are all. -/
theorem S_all (n k : Nat) : S (gV n k) (2 * k + 1) = V (n + 1) k := by
  have := high_S n k k (Nat.le_refl _)
  rw [Nat.sub_self] at this
  rw [show 2 * k + 1 = k + 1 + k by omega]
  exact this
theorem S_turn {n k j : Nat} (h : j ≤ 2 * k) : S (gV n k) j + S (gV n k) (2 * k - j) + gV n k j = V (n + 1) k := by
  have main : ∀ j, j ≤ k → S (gV n k) j + S (gV n k) (2 * k - j) + gV n k j = V (n + 1) k := by
    intro j hj
    rw [gV_low hj, low_S (by omega)]
    by_cases e : j = k
    · subst e
      rw [show 2 * j - j = j by omega, low_S (by omega)]
      show _ = V n j + 2 * S (V n) j
      omega
    · have := high_S n k (k - j - 1) (by omega)
      rw [show k + 1 + (k - j - 1) = 2 * k - j by omega, show k - (k - j - 1) = j + 1 by omega] at this
      have e2 : S (V n) (j + 1) = S (V n) j + V n j := rfl
      omega
  by_cases hj : j ≤ k
  · exact main j hj
  · have := main (2 * k - j) (by omega)
    rw [gV_turn h, show 2 * k - (2 * k - j) = j by omega] at this
    omega
theorem S_step {n k j : Nat} (h : j ≤ 2 * k) : S (gV n k) j + gV n k j ≤ V (n + 1) k := by
  rw [← S_all]
  exact S_mono (gV n k) (show j + 1 ≤ 2 * k + 1 by omega)
theorem S_lt {n k j : Nat} (h : S (gV n k) j < V (n + 1) k) : j ≤ 2 * k := by
  rcases Nat.lt_or_ge (2 * k) j with h' | h'
  · have := S_mono (gV n k) (show 2 * k + 1 ≤ j by omega)
    rw [S_all] at this; omega
  · exact h'

/-- The pulses of the first a numbers; what is left of k behind them. -/
def sm (f : Nat → Int) (a : Nat) : Nat := S (fun j => (f j).natAbs) a
def kA (f : Nat → Int) (k a : Nat) : Nat := k - sm f a
theorem sm_next (f : Nat → Int) (a : Nat) : sm f (a + 1) = sm f a + (f a).natAbs := rfl
theorem sm_mono (f : Nat → Int) {a b : Nat} (h : a ≤ b) : sm f a ≤ sm f b := S_mono _ h
theorem sm_congr {f h : Nat → Int} {a : Nat} (e : ∀ j, j < a → f j = h j) : sm f a = sm h a := S_congr fun j hj => by rw [e j hj]
theorem kA_next (f : Nat → Int) (k a : Nat) : kA f k (a + 1) = kA f k a - (f a).natAbs := by unfold kA; rw [sm_next]; omega
theorem kA_zero (f : Nat → Int) (k : Nat) : kA f k 0 = k := rfl
theorem kA_ab {f : Nat → Int} {k n a : Nat} (h : sm f n ≤ k) (ha : a < n) : (f a).natAbs ≤ kA f k a := by
  have := sm_mono f (show a + 1 ≤ n by omega)
  rw [sm_next] at this
  unfold kA; omega

/-- How many of n numbers with k pulses stand ahead of f by one of the first a places. -/
def pre (f : Nat → Int) (n k : Nat) : Nat → Nat
  | 0 => 0
  | a + 1 => pre f n k a + S (gV (n - 1 - a) (kA f k a)) (f a + kA f k a).toNat
theorem pre_congr {f h : Nat → Int} {n k : Nat} : ∀ {a : Nat}, (∀ j, j < a → f j = h j) → pre f n k a = pre h n k a
  | 0, _ => rfl
  | a + 1, e => by
    have e1 : kA f k a = kA h k a := by unfold kA; rw [sm_congr fun j hj => e j (by omega)]
    show pre f n k a + _ = pre h n k a + _
    rw [pre_congr (a := a) fun j hj => e j (by omega), e1, e a (by omega)]
/-- A vector's number. -/
def num (f : Nat → Int) (n k : Nat) : Nat := pre f n k n

theorem g_at {f : Nat → Int} {n k a : Nat} (ha : a < n) (h : (f a).natAbs ≤ kA f k a) : gV (n - 1 - a) (kA f k a) (f a + kA f k a).toNat = V (n - (a + 1)) (kA f k (a + 1)) := by
  unfold gV
  rw [kA_next, show n - 1 - a = n - (a + 1) by omega, show (((f a + (kA f k a : Nat)).toNat : Int) - (kA f k a : Nat)).natAbs = (f a).natAbs by omega]
theorem pre_step {f : Nat → Int} {n k a : Nat} (ha : a < n) (h : (f a).natAbs ≤ kA f k a) : pre f n k (a + 1) + V (n - (a + 1)) (kA f k (a + 1)) ≤ pre f n k a + V (n - a) (kA f k a) := by
  have h1 := S_step (n := n - 1 - a) (k := kA f k a) (j := (f a + kA f k a).toNat) (by omega)
  rw [g_at ha h, show n - 1 - a + 1 = n - a by omega] at h1
  show pre f n k a + _ + _ ≤ _
  omega
theorem pre_dec {f : Nat → Int} {n k a : Nat} (h : sm f n ≤ k) : ∀ d, a + d ≤ n → pre f n k (a + d) + V (n - (a + d)) (kA f k (a + d)) ≤ pre f n k a + V (n - a) (kA f k a)
  | 0, _ => Nat.le_refl _
  | d + 1, hd => by
    have hd' : a + d + 1 ≤ n := hd
    exact Nat.le_trans (pre_step (a := a + d) (by omega) (kA_ab h (by omega))) (pre_dec h d (by omega))
theorem pre_mono (f : Nat → Int) (n k : Nat) {a b : Nat} (h : a ≤ b) : pre f n k a ≤ pre f n k b := by
  obtain ⟨d, rfl⟩ : ∃ d, b = a + d := ⟨b - a, by omega⟩
  clear h
  induction d with
  | zero => exact Nat.le_refl _
  | succ d ih => exact Nat.le_trans ih (Nat.le_add_right _ _)
theorem kA_end {f : Nat → Int} {n k : Nat} (h : sm f n = k) : kA f k n = 0 := by unfold kA; omega
theorem num_at {f : Nat → Int} {n k a : Nat} (h : sm f n = k) (ha : a ≤ n) : num f n k + 1 ≤ pre f n k a + V (n - a) (kA f k a) := by
  have := pre_dec (a := a) (Nat.le_of_eq h) (n - a) (by omega)
  rw [show a + (n - a) = n by omega, kA_end h, V_one] at this
  exact this
theorem num_lt {f : Nat → Int} {n k : Nat} (h : sm f n = k) : num f n k < V n k := by
  have := num_at (a := 0) h (by omega)
  rw [show pre f n k 0 = 0 from rfl, kA_zero, Nat.sub_zero] at this
  omega
/-- Numbers follow the order. -/
theorem num_less {f h : Nat → Int} {n k x : Nat} (hf : sm f n = k) (hh : sm h n = k) (hx : x < n) (e : ∀ j, j < x → f j = h j) (hl : f x < h x) : num f n k < num h n k := by
  have h1 := num_at (a := x + 1) hf (by omega)
  have hab := kA_ab (Nat.le_of_eq hf) hx
  rw [← g_at hx hab] at h1
  have e1 : kA f k x = kA h k x := by unfold kA; rw [sm_congr e]
  have e2 : pre f n k x = pre h n k x := pre_congr e
  have h2 : pre h n k (x + 1) ≤ num h n k := pre_mono h n k (by omega)
  have h3 := kA_ab (Nat.le_of_eq hh) hx
  have h4 := S_mono (gV (n - 1 - x) (kA h k x)) (show (f x + kA f k x).toNat + 1 ≤ (h x + kA h k x).toNat by omega)
  have e3 : pre f n k (x + 1) = pre f n k x + S (gV (n - 1 - x) (kA f k x)) (f x + kA f k x).toNat := rfl
  have e4 : pre h n k (x + 1) = pre h n k x + S (gV (n - 1 - x) (kA h k x)) (h x + kA h k x).toNat := rfl
  have e5 : S (gV (n - 1 - x) (kA h k x)) ((f x + kA f k x).toNat + 1) = S (gV (n - 1 - x) (kA h k x)) (f x + kA f k x).toNat + gV (n - 1 - x) (kA h k x) (f x + kA f k x).toNat := rfl
  rw [e1] at h1 e3 e5 h4
  omega
theorem num_inj {f h : Nat → Int} {n k : Nat} (hf : sm f n = k) (hh : sm h n = k) (e : num f n k = num h n k) : ∀ j, j < n → f j = h j := by
  have : ∀ x, x ≤ n → ∀ j, j < x → f j = h j := by
    intro x
    induction x with
    | zero => intro _ j hj; omega
    | succ x ih =>
      intro hx j hj
      have ih := ih (by omega)
      by_cases ej : j = x
      · subst ej
        rcases Int.lt_trichotomy (f j) (h j) with c | c | c
        · have := num_less hf hh (by omega) ih c; omega
        · exact c
        · have := num_less hh hf (by omega) (fun i hi => (ih i hi).symm) c; omega
      · exact ih j (by omega)
  exact this n (Nat.le_refl _)
/-- A vector with other signs. -/
theorem num_turn {f : Nat → Int} {n k : Nat} (hf : sm f n = k) : num f n k + num (fun j => -f j) n k + 1 = V n k := by
  have e0 : ∀ a, sm (fun j => -f j) a = sm f a := fun a => S_congr fun j _ => Int.natAbs_neg _
  have : ∀ a, a ≤ n → pre f n k a + pre (fun j => -f j) n k a + V (n - a) (kA f k a) = V n k := by
    intro a
    induction a with
    | zero => intro _; show 0 + 0 + V (n - 0) (kA f k 0) = _; rw [kA_zero, Nat.sub_zero]; omega
    | succ a ih =>
      intro ha
      have ih := ih (by omega)
      have hab := kA_ab (Nat.le_of_eq hf) (show a < n by omega)
      have ek : kA (fun j => -f j) k a = kA f k a := by unfold kA; rw [e0]
      have hs := S_turn (n := n - 1 - a) (k := kA f k a) (j := (f a + kA f k a).toNat) (by omega)
      rw [g_at (by omega) hab, show n - 1 - a + 1 = n - a by omega, show 2 * kA f k a - (f a + kA f k a).toNat = (-f a + kA f k a).toNat by omega] at hs
      have e3 : pre f n k (a + 1) = pre f n k a + S (gV (n - 1 - a) (kA f k a)) (f a + kA f k a).toNat := rfl
      have e4 : pre (fun j => -f j) n k (a + 1) = pre (fun j => -f j) n k a + S (gV (n - 1 - a) (kA (fun j => -f j) k a)) (-f a + kA (fun j => -f j) k a).toNat := rfl
      rw [ek] at e4
      omega
  have := this n (Nat.le_refl _)
  rw [kA_end hf, Nat.sub_self, V_one] at this
  exact this

/-- How many vectors of n and k there are, whatever n and k are. -/
def cI (n k : Int) : Nat := if 0 ≤ n ∧ n ≤ 8 ∧ 0 ≤ k ∧ k ≤ 8 then V n.toNat k.toNat else 0
theorem cI_nat {n k : Nat} (hn : n ≤ 8) (hk : k ≤ 8) : cI n k = V n k := by
  unfold cI; rw [if_pos (by omega)]; simp
theorem cI_le (n k : Int) : cI n k ≤ 6975757441 := by
  unfold cI; split
  · exact V_le (by omega) (by omega)
  · omega
/-- A list's pulses: 9 of what is no vector. -/
def pI (f : Nat → Int) (n : Nat) : Nat := if n ≤ 8 then min (sm f n) 9 else 9
end Go.Proofs.YtfcaigggacgfkaaDoor.Ve
