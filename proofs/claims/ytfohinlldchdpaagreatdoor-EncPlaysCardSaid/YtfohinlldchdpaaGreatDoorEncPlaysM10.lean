/- Texts of the walk, one behind the other. -/
import Derived.Lib.BitFns

section
/- The two powers that a number's length stands between. -/
namespace Go.Proofs.YtfohinlldchdpaaGreatDoor.Rg

set_option linter.unusedVariables false

theorem bl_spec : ∀ (f x : Nat), f ≤ 64 → x < 2 ^ f → x < 2 ^ Lib.bitLen x ∧ Lib.bitLen x ≤ f ∧ (x ≠ 0 → 1 ≤ Lib.bitLen x ∧ 2 ^ (Lib.bitLen x - 1) ≤ x)
  | 0, x, _, h => by
    obtain rfl : x = 0 := by simp at h; omega
    have hz : Lib.bitLen 0 = 0 := by decide
    rw [hz]; simp
  | f + 1, x, hf, h => by
    by_cases h0 : x = 0
    · subst h0
      have hz : Lib.bitLen 0 = 0 := by decide
      rw [hz]; simp
    · have h64 : x < 2 ^ 64 := Nat.lt_of_lt_of_le h (Nat.pow_le_pow_right (by omega) hf)
      have hh := Lib.bitLen_half x h0 h64
      obtain ⟨i1, i2, i3⟩ := bl_spec f (x / 2) (by omega) (by rw [Nat.pow_succ] at h; omega)
      rw [hh]
      refine ⟨by rw [Nat.add_comm, Nat.pow_succ]; omega, by omega, fun _ => ⟨by omega, ?_⟩⟩
      rw [show 1 + Lib.bitLen (x / 2) - 1 = Lib.bitLen (x / 2) by omega]
      by_cases h1 : x / 2 = 0
      · have hz : Lib.bitLen 0 = 0 := by decide
        rw [h1, hz]; simp; omega
      · obtain ⟨j1, j2⟩ := i3 h1
        rw [show Lib.bitLen (x / 2) = Lib.bitLen (x / 2) - 1 + 1 by omega, Nat.pow_succ]; omega
end Go.Proofs.YtfohinlldchdpaaGreatDoor.Rg
end

section
/- Plain mathematics of pulse vectors: how many there are, how many begin with a number, a vector's number, the order. -/
namespace Go.Proofs.YtfohinlldchdpaaGreatDoor.Ve
set_option linter.unusedVariables false

/-- The first k of f's numbers, added. -/
def S (f : Nat → Nat) : Nat → Nat
  | 0 => 0
  | k + 1 => S f k + f k

/-- How many vectors of n numbers have k pulses. -/
def V : Nat → Nat → Nat
  | 0, k => if k = 0 then 1 else 0
  | n + 1, k => V n k + 2 * S (V n) k

theorem V_rec (n k : Nat) : V (n + 1) (k + 1) = V n (k + 1) + V (n + 1) k + V n k := by
  show V n (k + 1) + 2 * (S (V n) k + V n k) = V n (k + 1) + (V n k + 2 * S (V n) k) + V n k
  omega
theorem V_one : ∀ n, V n 0 = 1
  | 0 => rfl
  | n + 1 => by show V n 0 + 2 * 0 = 1; rw [V_one n]
theorem V_none (k : Nat) : V 0 (k + 1) = 0 := rfl
theorem V_end {k : Nat} (h : 0 < V 0 k) : k = 0 := by
  cases k with
  | zero => rfl
  | succ k => rw [V_none] at h; omega

theorem S_congr {f h : Nat → Nat} : ∀ {k : Nat}, (∀ j, j < k → f j = h j) → S f k = S h k
  | 0, _ => rfl
  | k + 1, e => by
    show S f k + f k = S h k + h k
    rw [S_congr (k := k) fun j hj => e j (by omega), e k (by omega)]
theorem S_mono (f : Nat → Nat) {a b : Nat} (h : a ≤ b) : S f a ≤ S f b := by
  obtain ⟨d, rfl⟩ : ∃ d, b = a + d := ⟨b - a, by omega⟩
  clear h
  induction d with
  | zero => exact Nat.le_refl _
  | succ d ih => exact Nat.le_trans ih (Nat.le_add_right _ _)
theorem S_le {f : Nat → Nat} {M : Nat} : ∀ {k : Nat}, (∀ j, j < k → f j ≤ M) → S f k ≤ k * M
  | 0, _ => Nat.zero_le _
  | k + 1, e => by
    have h1 := S_le (k := k) fun j hj => e j (by omega)
    have h2 := e k (by omega)
    show S f k + f k ≤ (k + 1) * M
    rw [Nat.succ_mul]; omega

theorem V_pow : ∀ n k, k ≤ 8 → V n k ≤ 17 ^ n
  | 0, k, _ => by unfold V; split <;> omega
  | n + 1, k, h => by
    have h1 := V_pow n k h
    have h2 : S (V n) k ≤ k * 17 ^ n := S_le fun j hj => V_pow n j (by omega)
    have h3 : k * 17 ^ n ≤ 8 * 17 ^ n := Nat.mul_le_mul_right _ h
    show V n k + 2 * S (V n) k ≤ 17 ^ (n + 1)
    rw [Nat.pow_succ]; omega
theorem V_le {n k : Nat} (hn : n ≤ 8) (hk : k ≤ 8) : V n k ≤ 6975757441 :=
  Nat.le_trans (V_pow n k hk) (Nat.le_trans (Nat.pow_le_pow_right (by omega) hn) (by decide))

/-- How many vectors of n + 1 numbers with k pulses begin with j - k. -/
def gV (n k j : Nat) : Nat := V n (k - ((j : Int) - k).natAbs)

theorem gV_low {n k j : Nat} (h : j ≤ k) : gV n k j = V n j := by
  unfold gV; rw [show k - ((j : Int) - k).natAbs = j by omega]
theorem low_S {n k m : Nat} (h : m ≤ k + 1) : S (gV n k) m = S (V n) m := S_congr fun j hj => gV_low (by omega)
theorem high_S (n k : Nat) : ∀ d, d ≤ k → S (gV n k) (k + 1 + d) + S (V n) (k - d) = V (n + 1) k
  | 0, _ => by
    show S (gV n k) (k + 1) + S (V n) k = V n k + 2 * S (V n) k
    rw [low_S (Nat.le_refl _)]
    show S (V n) k + V n k + S (V n) k = _
    omega
  | d + 1, h => by
    have ih := high_S n k d (by omega)
    have e : k - d = (k - (d + 1)) + 1 := by omega
    rw [e] at ih
    have e2 : gV n k (k + 1 + d) = V n (k - (d + 1)) := by unfold gV; rw [show k - (((k + 1 + d : Nat) : Int) - k).natAbs = k - (d + 1) by omega]
    show S (gV n k) (k + 1 + d) + gV n k (k + 1 + d) + S (V n) (k - (d + 1)) = _
    rw [e2]
    have : S (V n) (k - (d + 1) + 1) = S (V n) (k - (d + 1)) + V n (k - (d + 1)) := rfl
    omega
/-- The vectors, by what they begin with, are all. -/
theorem S_all (n k : Nat) : S (gV n k) (2 * k + 1) = V (n + 1) k := by
  have := high_S n k k (Nat.le_refl _)
  rw [Nat.sub_self] at this
  rw [show 2 * k + 1 = k + 1 + k by omega]
  exact this
theorem S_step {n k j : Nat} (h : j ≤ 2 * k) : S (gV n k) j + gV n k j ≤ V (n + 1) k := by
  rw [← S_all]
  exact S_mono (gV n k) (show j + 1 ≤ 2 * k + 1 by omega)
theorem S_lt {n k j : Nat} (h : S (gV n k) j < V (n + 1) k) : j ≤ 2 * k := by
  rcases Nat.lt_or_ge (2 * k) j with h' | h'
  · have := S_mono (gV n k) (show 2 * k + 1 ≤ j by omega)
    rw [S_all] at this; omega
  · exact h'

/-- The pulses of the first a numbers; what is left of k behind them. -/
def sm (f : Nat → Int) (a : Nat) : Nat := S (fun j => (f j).natAbs) a
def kA (f : Nat → Int) (k a : Nat) : Nat := k - sm f a
theorem sm_next (f : Nat → Int) (a : Nat) : sm f (a + 1) = sm f a + (f a).natAbs := rfl
theorem sm_mono (f : Nat → Int) {a b : Nat} (h : a ≤ b) : sm f a ≤ sm f b := S_mono _ h
theorem sm_congr {f h : Nat → Int} {a : Nat} (e : ∀ j, j < a → f j = h j) : sm f a = sm h a := S_congr fun j hj => by rw [e j hj]
theorem kA_next (f : Nat → Int) (k a : Nat) : kA f k (a + 1) = kA f k a - (f a).natAbs := by unfold kA; rw [sm_next]; omega
theorem kA_zero (f : Nat → Int) (k : Nat) : kA f k 0 = k := rfl
theorem kA_ab {f : Nat → Int} {k n a : Nat} (h : sm f n ≤ k) (ha : a < n) : (f a).natAbs ≤ kA f k a := by
  have := sm_mono f (show a + 1 ≤ n by omega)
  rw [sm_next] at this
  unfold kA; omega

/-- How many of n numbers with k pulses stand ahead of f by one of the first a places. -/
def pre (f : Nat → Int) (n k : Nat) : Nat → Nat
  | 0 => 0
  | a + 1 => pre f n k a + S (gV (n - 1 - a) (kA f k a)) (f a + kA f k a).toNat
theorem pre_congr {f h : Nat → Int} {n k : Nat} : ∀ {a : Nat}, (∀ j, j < a → f j = h j) → pre f n k a = pre h n k a
  | 0, _ => rfl
  | a + 1, e => by
    have e1 : kA f k a = kA h k a := by unfold kA; rw [sm_congr fun j hj => e j (by omega)]
    show pre f n k a + _ = pre h n k a + _
    rw [pre_congr (a := a) fun j hj => e j (by omega), e1, e a (by omega)]
/-- A vector's number. -/
def num (f : Nat → Int) (n k : Nat) : Nat := pre f n k n

theorem g_at {f : Nat → Int} {n k a : Nat} (ha : a < n) (h : (f a).natAbs ≤ kA f k a) : gV (n - 1 - a) (kA f k a) (f a + kA f k a).toNat = V (n - (a + 1)) (kA f k (a + 1)) := by
  unfold gV
  rw [kA_next, show n - 1 - a = n - (a + 1) by omega, show (((f a + (kA f k a : Nat)).toNat : Int) - (kA f k a : Nat)).natAbs = (f a).natAbs by omega]
theorem pre_step {f : Nat → Int} {n k a : Nat} (ha : a < n) (h : (f a).natAbs ≤ kA f k a) : pre f n k (a + 1) + V (n - (a + 1)) (kA f k (a + 1)) ≤ pre f n k a + V (n - a) (kA f k a) := by
  have h1 := S_step (n := n - 1 - a) (k := kA f k a) (j := (f a + kA f k a).toNat) (by omega)
  rw [g_at ha h, show n - 1 - a + 1 = n - a by omega] at h1
  show pre f n k a + _ + _ ≤ _
  omega
theorem pre_dec {f : Nat → Int} {n k a : Nat} (h : sm f n ≤ k) : ∀ d, a + d ≤ n → pre f n k (a + d) + V (n - (a + d)) (kA f k (a + d)) ≤ pre f n k a + V (n - a) (kA f k a)
  | 0, _ => Nat.le_refl _
  | d + 1, hd => by
    have hd' : a + d + 1 ≤ n := hd
    exact Nat.le_trans (pre_step (a := a + d) (by omega) (kA_ab h (by omega))) (pre_dec h d (by omega))
theorem pre_mono (f : Nat → Int) (n k : Nat) {a b : Nat} (h : a ≤ b) : pre f n k a ≤ pre f n k b := by
  obtain ⟨d, rfl⟩ : ∃ d, b = a + d := ⟨b - a, by omega⟩
  clear h
  induction d with
  | zero => exact Nat.le_refl _
  | succ d ih => exact Nat.le_trans ih (Nat.le_add_right _ _)
theorem kA_end {f : Nat → Int} {n k : Nat} (h : sm f n = k) : kA f k n = 0 := by unfold kA; omega
theorem num_at {f : Nat → Int} {n k a : Nat} (h : sm f n = k) (ha : a ≤ n) : num f n k + 1 ≤ pre f n k a + V (n - a) (kA f k a) := by
  have := pre_dec (a := a) (Nat.le_of_eq h) (n - a) (by omega)
  rw [show a + (n - a) = n by omega, kA_end h, V_one] at this
  exact this
theorem num_lt {f : Nat → Int} {n k : Nat} (h : sm f n = k) : num f n k < V n k := by
  have := num_at (a := 0) h (by omega)
  rw [show pre f n k 0 = 0 from rfl, kA_zero, Nat.sub_zero] at this
  omega
/-- Numbers follow the order. -/
theorem num_less {f h : Nat → Int} {n k x : Nat} (hf : sm f n = k) (hh : sm h n = k) (hx : x < n) (e : ∀ j, j < x → f j = h j) (hl : f x < h x) : num f n k < num h n k := by
  have h1 := num_at (a := x + 1) hf (by omega)
  have hab := kA_ab (Nat.le_of_eq hf) hx
  rw [← g_at hx hab] at h1
  have e1 : kA f k x = kA h k x := by unfold kA; rw [sm_congr e]
  have e2 : pre f n k x = pre h n k x := pre_congr e
  have h2 : pre h n k (x + 1) ≤ num h n k := pre_mono h n k (by omega)
  have h3 := kA_ab (Nat.le_of_eq hh) hx
  have h4 := S_mono (gV (n - 1 - x) (kA h k x)) (show (f x + kA f k x).toNat + 1 ≤ (h x + kA h k x).toNat by omega)
  have e3 : pre f n k (x + 1) = pre f n k x + S (gV (n - 1 - x) (kA f k x)) (f x + kA f k x).toNat := rfl
  have e4 : pre h n k (x + 1) = pre h n k x + S (gV (n - 1 - x) (kA h k x)) (h x + kA h k x).toNat := rfl
  have e5 : S (gV (n - 1 - x) (kA h k x)) ((f x + kA f k x).toNat + 1) = S (gV (n - 1 - x) (kA h k x)) (f x + kA f k x).toNat + gV (n - 1 - x) (kA h k x) (f x + kA f k x).toNat := rfl
  rw [e1] at h1 e3 e5 h4
  omega
theorem num_inj {f h : Nat → Int} {n k : Nat} (hf : sm f n = k) (hh : sm h n = k) (e : num f n k = num h n k) : ∀ j, j < n → f j = h j := by
  have : ∀ x, x ≤ n → ∀ j, j < x → f j = h j := by
    intro x
    induction x with
    | zero => intro _ j hj; omega
    | succ x ih =>
      intro hx j hj
      have ih := ih (by omega)
      by_cases ej : j = x
      · subst ej
        rcases Int.lt_trichotomy (f j) (h j) with c | c | c
        · have := num_less hf hh (by omega) ih c; omega
        · exact c
        · have := num_less hh hf (by omega) (fun i hi => (ih i hi).symm) c; omega
      · exact ih j (by omega)
  exact this n (Nat.le_refl _)
/-- How many vectors of n and k there are, whatever n and k are. -/
def cI (n k : Int) : Nat := if 0 ≤ n ∧ n ≤ 8 ∧ 0 ≤ k ∧ k ≤ 8 then V n.toNat k.toNat else 0
theorem cI_nat {n k : Nat} (hn : n ≤ 8) (hk : k ≤ 8) : cI n k = V n k := by
  unfold cI; rw [if_pos (by omega)]; simp
theorem cI_le (n k : Int) : cI n k ≤ 6975757441 := by
  unfold cI; split
  · exact V_le (by omega) (by omega)
  · omega
/-- A list's pulses: 9 of what is no vector. -/
def pI (f : Nat → Int) (n : Nat) : Nat := if n ≤ 8 then min (sm f n) 9 else 9
theorem cI_g {m K j : Nat} (hm : m ≤ 8) (hK : K ≤ 8) (hj : j ≤ 2 * K) : cI m ((K : Int) - ((j : Int) - K).natAbs) = gV m K j := by
  rw [show ((K : Int) - ((j : Int) - K).natAbs) = ((K - ((j : Int) - K).natAbs : Nat) : Int) by omega, cI_nat hm (by omega)]
  rfl
end Go.Proofs.YtfohinlldchdpaaGreatDoor.Ve
end

section
/- The mathematics of pulses given: which band is next, what all have in the end, what that costs; the order of a sort by insertion and the first in it that can have one more. -/
set_option linter.unusedVariables false
namespace Go.Proofs.YtfohinlldchdpaaGreatDoor.Sp

/-- How many numbers a band has. -/
def sB : Nat → Nat
  | 0 => 2
  | 1 => 2
  | 2 => 4
  | 3 => 8
  | _ => 0
/-- What k pulses of a band cost. -/
def P (b k : Nat) : Nat := Lib.bitLen (Ve.cI (sB b) k - 1)
theorem P_zero {b : Nat} (h : b < 4) : P b 0 = 0 := by
  have : b = 0 ∨ b = 1 ∨ b = 2 ∨ b = 3 := by omega
  have e : Ve.cI (sB b) (0 : Nat) = Ve.V (sB b) 0 := by
    rcases this with rfl | rfl | rfl | rfl <;> exact Ve.cI_nat (by decide) (by decide)
  unfold P
  rw [e, Ve.V_one]
  rfl
theorem P_le (b k : Nat) : P b k ≤ 33 := by
  unfold P
  exact Lib.bitLen_le _ 33 (by omega) (by have := Ve.cI_le (sB b) k; omega)
theorem bitLenAux_mono : ∀ (f : Nat) {a b : Nat}, a ≤ b → Lib.bitLenAux f a ≤ Lib.bitLenAux f b
  | 0, _, _, _ => Nat.le_refl _
  | f + 1, a, b, h => by
    have := bitLenAux_mono f (Nat.div_le_div_right (c := 2) h)
    simp only [Lib.bitLenAux]
    split
    · omega
    · split
      · omega
      · omega
theorem bitLen_mono {a b : Nat} (h : a ≤ b) : Lib.bitLen a ≤ Lib.bitLen b := bitLenAux_mono 64 h
theorem P_mono {b k : Nat} (hb : b < 4) (hk : k < 8) : P b k ≤ P b (k + 1) := by
  have : b = 0 ∨ b = 1 ∨ b = 2 ∨ b = 3 := by omega
  unfold P
  apply bitLen_mono
  have h8 : sB b ≤ 8 := by rcases this with rfl | rfl | rfl | rfl <;> decide
  rw [Ve.cI_nat h8 (by omega), Ve.cI_nat h8 (by omega)]
  have : Ve.V (sB b) k ≤ Ve.V (sB b) (k + 1) := by
    obtain ⟨n, hn⟩ : ∃ n, sB b = n + 1 := ⟨sB b - 1, by rcases this with rfl | rfl | rfl | rfl <;> rfl⟩
    rw [hn, Ve.V_rec]
    omega
  omega
theorem P_up {b j : Nat} (hb : b < 4) : ∀ {k : Nat}, j ≤ k → k ≤ 8 → P b j ≤ P b k
  | 0, h, _ => by rw [show j = 0 by omega]; exact Nat.le_refl _
  | k + 1, h, h8 => by
    by_cases e : j = k + 1
    · rw [e]; exact Nat.le_refl _
    · exact Nat.le_trans (P_up hb (by omega) (by omega)) (P_mono hb (by omega))
/-- What one more costs. -/
def pr (b k : Nat) : Int := (P b (k + 1) : Int) - P b k

/-- The best of those that can, band by band; 4: none. -/
def stp (c : Nat → Bool) (lt : Nat → Nat → Bool) (m b : Nat) : Nat := if c b && (m == 4 || lt b m) then b else m
def bs (c : Nat → Bool) (lt : Nat → Nat → Bool) : Nat → Nat
  | 0 => 4
  | b + 1 => stp c lt (bs c lt b) b
theorem bs_cases (c : Nat → Bool) (lt : Nat → Nat → Bool) : ∀ n, n ≤ 4 → (bs c lt n = 4 ∧ ∀ b, b < n → c b = false) ∨ (bs c lt n < n ∧ c (bs c lt n) = true)
  | 0, _ => .inl ⟨rfl, fun b h => absurd h (Nat.not_lt_zero b)⟩
  | n + 1, h => by
    rw [bs, stp]
    rcases bs_cases c lt n (by omega) with ⟨e, he⟩ | ⟨h1, h2⟩
    · rw [e]
      cases hc : c n
      · refine .inl ⟨by simp, fun b hb => ?_⟩
        by_cases e : b = n
        · rw [e, hc]
        · exact he b (by omega)
      · exact .inr ⟨by simp, by simp [hc]⟩
    · refine .inr ?_
      split
      · rename_i hc
        rw [Bool.and_eq_true] at hc
        exact ⟨by omega, hc.1⟩
      · exact ⟨by omega, h2⟩
theorem bs_congr {c c' : Nat → Bool} {lt lt' : Nat → Nat → Bool} : ∀ {n : Nat}, n ≤ 4 → (∀ b, b < n → c b = c' b) → (∀ x y, x < n → y < n → lt x y = lt' x y) → bs c lt n = bs c' lt' n
  | 0, _, _, _ => rfl
  | n + 1, h, hc, hl => by
    have e := bs_congr (c := c) (c' := c') (lt := lt) (lt' := lt') (n := n) (by omega) (fun b hb => hc b (by omega)) fun x y hx hy => hl x y (by omega) (by omega)
    rw [bs, bs, stp, stp, ← e, hc n (by omega)]
    rcases bs_cases c lt n (by omega) with ⟨e4, _⟩ | ⟨h1, _⟩
    · rw [e4]; simp
    · rw [hl n (bs c lt n) (by omega) (by omega)]

/-- A sort by insertion: the places j-1 and j are turned while what stands at j goes ahead. -/
def sw (f : Nat → Nat) (j : Nat) : Nat → Nat := fun i => if i = j then f (j - 1) else if i = j - 1 then f j else f i
def inn (lt : Nat → Nat → Bool) : Nat → (Nat → Nat) → Nat → Nat
  | 0, f => f
  | j + 1, f => if lt (f (j + 1)) (f j) then inn lt j (sw f (j + 1)) else f
def so (lt : Nat → Nat → Bool) : Nat → Nat → Nat
  | 0 => id
  | 1 => id
  | i + 1 => inn lt i (so lt i)
/-- The first that can, from the place p on; 4: none. -/
def fst (f : Nat → Nat) (c : Nat → Bool) (p : Nat) : Nat :=
  if p < 4 then (if c (f p) then f p else fst f c (p + 1)) else 4
termination_by 4 - p
theorem fst_step {f : Nat → Nat} {c : Nat → Bool} {p : Nat} (h : p < 4) : fst f c p = if c (f p) then f p else fst f c (p + 1) := by
  rw [fst, if_pos h]
theorem fst_yes {f : Nat → Nat} {c : Nat → Bool} {p : Nat} (h : p < 4) (hc : c (f p) = true) : fst f c p = f p := by
  rw [fst, if_pos h, if_pos hc]
theorem fst_no {f : Nat → Nat} {c : Nat → Bool} {p : Nat} (h : p < 4) (hc : c (f p) = false) : fst f c p = fst f c (p + 1) := by
  rw [fst, if_pos h, hc]; rfl
theorem fst_end (f : Nat → Nat) (c : Nat → Bool) : fst f c 4 = 4 := by
  rw [fst, if_neg (by omega)]

/-- The same out of ten answers. -/
def ltB (a b c d e f : Bool) (x y : Nat) : Bool :=
  match x, y with
  | 1, 0 => a
  | 2, 0 => b
  | 2, 1 => c
  | 3, 0 => d
  | 3, 1 => e
  | 3, 2 => f
  | _, _ => false
def cB (p q r s : Bool) (x : Nat) : Bool :=
  match x with
  | 0 => p
  | 1 => q
  | 2 => r
  | 3 => s
  | _ => false
def f4 (f : Nat → Nat) (c : Nat → Bool) : Nat :=
  if c (f 0) then f 0 else if c (f 1) then f 1 else if c (f 2) then f 2 else if c (f 3) then f 3 else 4
theorem fst_f4 (f : Nat → Nat) (c : Nat → Bool) : fst f c 0 = f4 f c := by
  unfold f4
  have e4 : fst f c (0 + 1 + 1 + 1 + 1) = 4 := fst_end f c
  rw [fst_step (p := 0) (by omega), fst_step (p := 0 + 1) (by omega), fst_step (p := 0 + 1 + 1) (by omega), fst_step (p := 0 + 1 + 1 + 1) (by omega), e4]
def mono3 (xy yz xz : Bool) : Bool := (!(xy && yz) || xz) && (xy || yz || !xz)
theorem ten : ∀ a b c d e f : Bool, (mono3 c a b && mono3 e a d && mono3 f b d && mono3 f c e) = true → ∀ p q r s : Bool,
    f4 (so (ltB a b c d e f) 4) (cB p q r s) = bs (cB p q r s) (ltB a b c d e f) 4 := by
  decide +kernel
end Go.Proofs.YtfohinlldchdpaaGreatDoor.Sp
end

section
/- Plain mathematics of the bands: their places, sizes of waves, sums, what fills a band. -/
namespace Go.Proofs.YtfohinlldchdpaaGreatDoor.Lv

def fs : Nat → Nat
  | 0 => 0
  | 1 => 2
  | 2 => 4
  | 3 => 8
  | _ => 16
/-- The band b's first wave, and that behind its last one; 0 of no band. -/
def lo (b : Int) : Nat := if 0 ≤ b ∧ b < 4 then fs b.toNat else 0
def hi (b : Int) : Nat := if 0 ≤ b ∧ b < 4 then fs (b.toNat + 1) else 0
theorem band_cases (b : Int) : (¬ (0 ≤ b ∧ b < 4) ∧ lo b = 0 ∧ hi b = 0) ∨ (0 ≤ b ∧ b < 4 ∧ lo b < hi b ∧ hi b ≤ 16) := by
  unfold lo hi
  by_cases h : 0 ≤ b ∧ b < 4
  · rw [if_pos h, if_pos h]
    refine .inr ⟨h.1, h.2, ?_⟩
    have : b = 0 ∨ b = 1 ∨ b = 2 ∨ b = 3 := by omega
    rcases this with rfl | rfl | rfl | rfl <;> decide
  · rw [if_neg h, if_neg h]; exact .inl ⟨h, rfl, rfl⟩
theorem lo_nat (b : Nat) (h : b < 4) : lo b = fs b := by unfold lo; rw [if_pos (by omega)]; rfl
theorem hi_nat (b : Nat) (h : b < 4) : hi b = fs (b + 1) := by unfold hi; rw [if_pos (by omega)]; rfl

/-- A number without its sign, 2^40 at most. -/
def sz (x : Int) : Int := if x < -1099511627776 ∨ 1099511627776 < x then 1099511627776 else if x < 0 then -x else x
def hld (x b : Int) : Int := max (-b) (min x b)
def uns (x : Int) : Int := max x (-x)
theorem sz_bd (x : Int) : 0 ≤ sz x ∧ sz x ≤ 1099511627776 := by unfold sz; split <;> (try split) <;> omega
theorem uns_hld (x : Int) : uns (hld x 1099511627776) = sz x := by unfold uns hld sz; split <;> (try split) <;> omega
theorem hld_bd (x b : Int) (h : 0 ≤ b) : -b ≤ hld x b ∧ hld x b ≤ b := by unfold hld; omega

def sm (g : Nat → Int) : Nat → Int
  | 0 => 0
  | n + 1 => sm g n + g n
theorem sm_bd (g : Nat → Int) (B : Int) (h : ∀ i, 0 ≤ g i ∧ g i ≤ B) : ∀ n : Nat, 0 ≤ sm g n ∧ sm g n ≤ n * B
  | 0 => by simp [sm]
  | n + 1 => by
    have h1 := sm_bd g B h n
    have h2 := h n
    have e : ((n + 1 : Nat) : Int) * B = n * B + B := by rw [Int.natCast_add, Int.add_mul]; simp
    simp only [sm]
    rw [e]
    omega
theorem sm_ext (f g : Nat → Int) : ∀ n, (∀ i, i < n → f i = g i) → sm f n = sm g n
  | 0, _ => rfl
  | n + 1, h => by simp only [sm]; rw [sm_ext f g n fun i hi => h i (by omega), h n (by omega)]

/-- The level of n waves. -/
def lv (f : Nat → Int) (n : Nat) : Int := min ((Lib.bitLen (sm (fun i => sz (f i)) n).natAbs : Nat) : Int) 20
theorem lv_ext (f g : Nat → Int) (n : Nat) (h : ∀ i, i < n → sz (f i) = sz (g i)) : lv f n = lv g n := by unfold lv; rw [sm_ext _ _ n h]
/-- The level of the band b of a frame. -/
def lvB (f : Nat → Int) (b : Nat) : Int := lv (fun i => f (fs b + i)) (fs (b + 1) - fs b)

/-- Are all pulses such as may be? -/
def okY (y : Nat → Int) : Nat → Bool
  | 0 => true
  | n + 1 => okY y n && decide (-8 ≤ y n ∧ y n ≤ 8)
theorem okY_iff (y : Nat → Int) : ∀ n, okY y n = true ↔ ∀ i, i < n → -8 ≤ y i ∧ y i ≤ 8
  | 0 => by simp [okY]
  | n + 1 => by
    simp only [okY, Bool.and_eq_true, decide_eq_true_eq, okY_iff y n]
    constructor
    · intro h i hi
      by_cases e : i = n
      · subst e; exact h.2
      · exact h.1 i (by omega)
    · intro h; exact ⟨fun i hi => h i (by omega), h n (by omega)⟩
/-- How many pulses there are, 0 of such as may not be. -/
def cnt (y : Nat → Int) (n : Nat) : Int := if n ≤ 8 ∧ okY y n = true then sm (fun i => uns (y i)) n else 0
theorem uns_bd {x : Int} (h1 : -8 ≤ x) (h2 : x ≤ 8) : 0 ≤ uns x ∧ uns x ≤ 8 := by unfold uns; omega
theorem smu_bd (y : Nat → Int) : ∀ n, okY y n = true → 0 ≤ sm (fun i => uns (y i)) n ∧ sm (fun i => uns (y i)) n ≤ 8 * n
  | 0, _ => by simp [sm]
  | n + 1, h => by
    have h' := (okY_iff y (n + 1)).1 h
    have h1 := smu_bd y n ((okY_iff y n).2 fun i hi => h' i (by omega))
    have h2 := uns_bd (h' n (by omega)).1 (h' n (by omega)).2
    simp only [sm]
    omega
theorem cnt_bd (y : Nat → Int) (n : Nat) : 0 ≤ cnt y n ∧ cnt y n ≤ 64 := by
  unfold cnt
  by_cases h : n ≤ 8 ∧ okY y n = true
  · rw [if_pos h]; have := smu_bd y n h.2; omega
  · rw [if_neg h]; omega

/-- A band's wave. -/
def flv (l k x : Int) : Int := (x * (3 * 2 ^ l.toNat)).tdiv (4 * k)
def fl (l : Int) (y : Nat → Int) (n i : Nat) : Int := if l < 1 ∨ 20 < l ∨ cnt y n = 0 then 0 else flv l (cnt y n) (y i)
theorem fl_off {l : Int} {y : Nat → Int} {n : Nat} (h : l < 1 ∨ 20 < l ∨ cnt y n = 0) (i : Nat) : fl l y n i = 0 := if_pos h
theorem fl_on {l : Int} {y : Nat → Int} {n : Nat} (h : ¬ (l < 1 ∨ 20 < l ∨ cnt y n = 0)) (i : Nat) : fl l y n i = flv l (cnt y n) (y i) := if_neg h
theorem mul_bd (a b c d : Int) (h1 : -c ≤ a) (h2 : a ≤ c) (h3 : -d ≤ b) (h4 : b ≤ d) : -(c * d) ≤ a * b ∧ a * b ≤ c * d := by
  have p1 := Int.mul_nonneg (show 0 ≤ c - a by omega) (show 0 ≤ d - b by omega)
  have p2 := Int.mul_nonneg (show 0 ≤ c + a by omega) (show 0 ≤ d + b by omega)
  have p3 := Int.mul_nonneg (show 0 ≤ c - a by omega) (show 0 ≤ d + b by omega)
  have p4 := Int.mul_nonneg (show 0 ≤ c + a by omega) (show 0 ≤ d - b by omega)
  rw [Int.sub_mul, Int.mul_sub, Int.mul_sub] at p1
  rw [Int.add_mul, Int.mul_add, Int.mul_add] at p2
  rw [Int.sub_mul, Int.mul_add, Int.mul_add] at p3
  rw [Int.add_mul, Int.mul_sub, Int.mul_sub] at p4
  omega

theorem pow_bd {k m : Nat} (h : k ≤ m) : (1 : Int) ≤ 2 ^ k ∧ (2 : Int) ^ k ≤ 2 ^ m := by
  have h1 : 1 ≤ 2 ^ k := Nat.one_le_two_pow
  have h2 : 2 ^ k ≤ 2 ^ m := Nat.pow_le_pow_right (by omega) h
  exact ⟨by exact_mod_cast h1, by exact_mod_cast h2⟩
end Go.Proofs.YtfohinlldchdpaaGreatDoor.Lv
end

section
/- Plain mathematics of filled bands: signs, sizes, sums. -/
namespace Go.Proofs.YtfohinlldchdpaaGreatDoor.Lv
set_option linter.unusedVariables false

/-- The pulses that the statements make. -/
def pS (y : Nat → Int) (i : Nat) : Int := (y i).tmod 9
theorem flv_pos (l k x : Int) (hk : 1 ≤ k) (hx : 0 ≤ x) : flv l k x = (x * (3 * 2 ^ l.toNat)) / (4 * k) := by
  have hp := (pow_bd (Nat.le_refl l.toNat)).1
  unfold flv
  rw [Int.tdiv_eq_ediv_of_nonneg]
  exact Int.mul_nonneg hx (by omega)
theorem flv_neg (l k x : Int) : flv l k (-x) = -flv l k x := by
  unfold flv
  rw [Int.neg_mul, Int.neg_tdiv]
theorem flv_uns (l k x : Int) (hk : 1 ≤ k) : uns (flv l k x) = (uns x * (3 * 2 ^ l.toNat)) / (4 * k) := by
  have hp := (pow_bd (Nat.le_refl l.toNat)).1
  have key : ∀ z : Int, 0 ≤ z → 0 ≤ (z * (3 * 2 ^ l.toNat)) / (4 * k) := fun z hz => Int.ediv_nonneg (Int.mul_nonneg hz (by omega)) (by omega)
  rcases Int.le_total 0 x with h | h
  · rw [flv_pos l k x hk h]
    have := key x h
    rw [show uns x = x by unfold uns; omega]
    unfold uns; omega
  · have e := flv_neg l k (-x)
    rw [Int.neg_neg] at e
    rw [e, flv_pos l k (-x) hk (by omega), show uns x = -x by unfold uns; omega]
    have := key (-x) (by omega)
    unfold uns; omega
theorem div_both (t d : Int) (hd : 0 < d) : d * (t / d) ≤ t ∧ t < d * (t / d) + d := by
  have h1 := Int.mul_ediv_add_emod t d
  have h2 := Int.emod_nonneg t (show d ≠ 0 by omega)
  have h3 := Int.emod_lt_of_pos t hd
  omega

/-- The sum of a filled band, against its pulses. -/
theorem sum_both (l k : Int) (y : Nat → Int) (hk : 1 ≤ k) : ∀ n : Nat,
    4 * k * sm (fun i => uns (flv l k (y i))) n ≤ 3 * 2 ^ l.toNat * sm (fun i => uns (y i)) n ∧
    3 * 2 ^ l.toNat * sm (fun i => uns (y i)) n ≤ 4 * k * sm (fun i => uns (flv l k (y i))) n + n * (4 * k)
  | 0 => by simp [sm]
  | n + 1 => by
    obtain ⟨h1, h2⟩ := sum_both l k y hk n
    obtain ⟨d1, d2⟩ := div_both (uns (y n) * (3 * 2 ^ l.toNat)) (4 * k) (by omega)
    rw [← flv_uns l k (y n) hk, Int.mul_comm (uns (y n))] at d1 d2
    simp only [sm]
    rw [Int.mul_add, Int.mul_add, Int.natCast_add, Int.add_mul]
    simp only [Int.cast_ofNat_Int, Int.one_mul]
    omega
theorem smu_nonneg (g : Nat → Int) (h : ∀ i, 0 ≤ g i) : ∀ n, 0 ≤ sm g n
  | 0 => Int.le_refl _
  | n + 1 => by have := smu_nonneg g h n; have := h n; simp only [sm]; omega
theorem uns_nonneg (x : Int) : 0 ≤ uns x := by unfold uns; omega

/-- What a filled band's sum is, where it has pulses. -/
theorem sum_fill (l : Int) (y : Nat → Int) (n : Nat) (h8 : n ≤ 8) (hy : okY y n = true) (h : ¬ (l < 1 ∨ 20 < l ∨ cnt y n = 0)) :
    0 ≤ sm (fun i => uns (fl l y n i)) n ∧ 4 * sm (fun i => uns (fl l y n i)) n ≤ 3 * 2 ^ l.toNat ∧ 3 * 2 ^ l.toNat ≤ 4 * sm (fun i => uns (fl l y n i)) n + 32 := by
  have hc : cnt y n = sm (fun i => uns (y i)) n := by unfold cnt; rw [if_pos ⟨h8, hy⟩]
  have hk : 1 ≤ cnt y n := by have := cnt_bd y n; omega
  have e : sm (fun i => uns (fl l y n i)) n = sm (fun i => uns (flv l (cnt y n) (y i))) n := sm_ext _ _ n fun i _ => by rw [fl_on h]
  obtain ⟨h1, h2⟩ := sum_both l (cnt y n) y hk n
  rw [← hc] at h1 h2
  have h0 := smu_nonneg (fun i => uns (flv l (cnt y n) (y i))) (fun i => uns_nonneg _) n
  rw [e]
  generalize sm (fun i => uns (flv l (cnt y n) (y i))) n = S at *
  generalize cnt y n = K at *
  generalize (2 : Int) ^ l.toNat = p at *
  refine ⟨h0, Int.le_of_mul_le_mul_right (a := K) ?_ (by omega), Int.le_of_mul_le_mul_right (a := K) ?_ (by omega)⟩
  · rw [Int.mul_right_comm]; exact h1
  · rw [Int.add_mul, Int.mul_right_comm 4 S K]
    have : (n : Int) * (4 * K) ≤ 8 * (4 * K) := Int.mul_le_mul_of_nonneg_right (by omega) (by omega)
    omega
end Go.Proofs.YtfohinlldchdpaaGreatDoor.Lv
end
