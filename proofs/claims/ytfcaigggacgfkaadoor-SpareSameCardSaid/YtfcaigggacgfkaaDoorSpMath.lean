/- The mathematics of pulses given: which band is next, what all have in the end, what that costs; the order of a sort by insertion and the first in it that can have one more. -/
import Derived.Test.YtfcaigggacgfkaaDoorVeMath
import Derived.Lib.BitFns
set_option linter.unusedVariables false
namespace Go.Proofs.YtfcaigggacgfkaaDoor.Sp

/-- How many numbers a band has. -/
def sB : Nat → Nat
  | 0 => 2
  | 1 => 2
  | 2 => 4
  | 3 => 8
  | _ => 0
/-- What k pulses of a band cost. -/
def P (b k : Nat) : Nat := Lib.bitLen (Ve.cI (sB b) k - 1)
theorem P_zero {b : Nat} (h : b < 4) : P b 0 = 0 := by
  have : b = 0 ∨ b = 1 ∨ b = 2 ∨ b = 3 := by omega
  have e : Ve.cI (sB b) (0 : Nat) = Ve.V (sB b) 0 := by
    rcases this with rfl | rfl | rfl | rfl <;> exact Ve.cI_nat (by decide) (by decide)
  unfold P
  rw [e, Ve.V_one]
  rfl
theorem P_le (b k : Nat) : P b k ≤ 33 := by
  unfold P
  exact Lib.bitLen_le _ 33 (by omega) (by have := Ve.cI_le (sB b) k; omega)
theorem bitLenAux_mono : ∀ (f : Nat) {a b : Nat}, a ≤ b → Lib.bitLenAux f a ≤ Lib.bitLenAux f b
  | 0, _, _, _ => Nat.le_refl _
  | f + 1, a, b, h => by
    have := bitLenAux_mono f (Nat.div_le_div_right (c := 2) h)
    simp only [Lib.bitLenAux]
    split
    · omega
    · split
      · omega
      · omega
theorem bitLen_mono {a b : Nat} (h : a ≤ b) : Lib.bitLen a ≤ Lib.bitLen b := bitLenAux_mono 64 h
theorem P_mono {b k : Nat} (hb : b < 4) (hk : k < 8) : P b k ≤ P b (k + 1) := by
  have : b = 0 ∨ b = 1 ∨ b = 2 ∨ b = 3 := by omega
  unfold P
  apply bitLen_mono
  have h8 : sB b ≤ 8 := by rcases this with rfl | rfl | rfl | rfl <;> decide
  rw [Ve.cI_nat h8 (by omega), Ve.cI_nat h8 (by omega)]
  have : Ve.V (sB b) k ≤ Ve.V (sB b) (k + 1) := by
    obtain ⟨n, hn⟩ : ∃ n, sB b = n + 1 := ⟨sB b - 1, by rcases this with rfl | rfl | rfl | rfl <;> rfl⟩
    rw [hn, Ve.V_rec]
    omega
  omega
theorem P_up {b j : Nat} (hb : b < 4) : ∀ {k : Nat}, j ≤ k → k ≤ 8 → P b j ≤ P b k
  | 0, h, _ => by rw [show j = 0 by omega]; exact Nat.le_refl _
  | k + 1, h, h8 => by
    by_cases e : j = k + 1
    · rw [e]; exact Nat.le_refl _
    · exact Nat.le_trans (P_up hb (by omega) (by omega)) (P_mono hb (by omega))
/-- What one more costs. -/
def pr (b k : Nat) : Int := (P b (k + 1) : Int) - P b k

/-- The best of those that can, band by band; 4: none. -/
def stp (c : Nat → Bool) (lt : Nat → Nat → Bool) (m b : Nat) : Nat := if c b && (m == 4 || lt b m) then b else m
def bs (c : Nat → Bool) (lt : Nat → Nat → Bool) : Nat → Nat
  | 0 => 4
  | b + 1 => stp c lt (bs c lt b) b
theorem bs_cases (c : Nat → Bool) (lt : Nat → Nat → Bool) : ∀ n, n ≤ 4 → (bs c lt n = 4 ∧ ∀ b, b < n → c b = false) ∨ (bs c lt n < n ∧ c (bs c lt n) = true)
  | 0, _ => .inl ⟨rfl, fun b h => absurd h (Nat.not_lt_zero b)⟩
  | n + 1, h => by
    rw [bs, stp]
    rcases bs_cases c lt n (by omega) with ⟨e, he⟩ | ⟨h1, h2⟩
    · rw [e]
      cases hc : c n
      · refine .inl ⟨by simp, fun b hb => ?_⟩
        by_cases e : b = n
        · rw [e, hc]
        · exact he b (by omega)
      · exact .inr ⟨by simp, by simp [hc]⟩
    · refine .inr ?_
      split
      · rename_i hc
        rw [Bool.and_eq_true] at hc
        exact ⟨by omega, hc.1⟩
      · exact ⟨by omega, h2⟩
theorem bs_congr {c c' : Nat → Bool} {lt lt' : Nat → Nat → Bool} : ∀ {n : Nat}, n ≤ 4 → (∀ b, b < n → c b = c' b) → (∀ x y, x < n → y < n → lt x y = lt' x y) → bs c lt n = bs c' lt' n
  | 0, _, _, _ => rfl
  | n + 1, h, hc, hl => by
    have e := bs_congr (c := c) (c' := c') (lt := lt) (lt' := lt') (n := n) (by omega) (fun b hb => hc b (by omega)) fun x y hx hy => hl x y (by omega) (by omega)
    rw [bs, bs, stp, stp, ← e, hc n (by omega)]
    rcases bs_cases c lt n (by omega) with ⟨e4, _⟩ | ⟨h1, _⟩
    · rw [e4]; simp
    · rw [hl n (bs c lt n) (by omega) (by omega)]

/-- A sort by insertion: the places j-1 and j are turned while what stands at j goes ahead. -/
def sw (f : Nat → Nat) (j : Nat) : Nat → Nat := fun i => if i = j then f (j - 1) else if i = j - 1 then f j else f i
def inn (lt : Nat → Nat → Bool) : Nat → (Nat → Nat) → Nat → Nat
  | 0, f => f
  | j + 1, f => if lt (f (j + 1)) (f j) then inn lt j (sw f (j + 1)) else f
def so (lt : Nat → Nat → Bool) : Nat → Nat → Nat
  | 0 => id
  | 1 => id
  | i + 1 => inn lt i (so lt i)
/-- The first that can, from the place p on; 4: none. -/
def fst (f : Nat → Nat) (c : Nat → Bool) (p : Nat) : Nat :=
  if p < 4 then (if c (f p) then f p else fst f c (p + 1)) else 4
termination_by 4 - p
theorem fst_step {f : Nat → Nat} {c : Nat → Bool} {p : Nat} (h : p < 4) : fst f c p = if c (f p) then f p else fst f c (p + 1) := by
  rw [fst, if_pos h]
theorem fst_yes {f : Nat → Nat} {c : Nat → Bool} {p : Nat} (h : p < 4) (hc : c (f p) = true) : fst f c p = f p := by
  rw [fst, if_pos h, if_pos hc]
theorem fst_no {f : Nat → Nat} {c : Nat → Bool} {p : Nat} (h : p < 4) (hc : c (f p) = false) : fst f c p = fst f c (p + 1) := by
  rw [fst, if_pos h, hc]; rfl
theorem fst_end (f : Nat → Nat) (c : Nat → Bool) : fst f c 4 = 4 := by
  rw [fst, if_neg (by omega)]

/-- The same out of ten answers. -/
def ltB (a b c d e f : Bool) (x y : Nat) : Bool :=
  match x, y with
  | 1, 0 => a
  | 2, 0 => b
  | 2, 1 => c
  | 3, 0 => d
  | 3, 1 => e
  | 3, 2 => f
  | _, _ => false
def cB (p q r s : Bool) (x : Nat) : Bool :=
  match x with
  | 0 => p
  | 1 => q
  | 2 => r
  | 3 => s
  | _ => false
def f4 (f : Nat → Nat) (c : Nat → Bool) : Nat :=
  if c (f 0) then f 0 else if c (f 1) then f 1 else if c (f 2) then f 2 else if c (f 3) then f 3 else 4
theorem fst_f4 (f : Nat → Nat) (c : Nat → Bool) : fst f c 0 = f4 f c := by
  unfold f4
  have e4 : fst f c (0 + 1 + 1 + 1 + 1) = 4 := fst_end f c
  rw [fst_step (p := 0) (by omega), fst_step (p := 0 + 1) (by omega), fst_step (p := 0 + 1 + 1) (by omega), fst_step (p := 0 + 1 + 1 + 1) (by omega), e4]
def mono3 (xy yz xz : Bool) : Bool := (!(xy && yz) || xz) && (xy || yz || !xz)
theorem ten : ∀ a b c d e f : Bool, (mono3 c a b && mono3 e a d && mono3 f b d && mono3 f c e) = true → ∀ p q r s : Bool,
    f4 (so (ltB a b c d e f) 4) (cB p q r s) = bs (cB p q r s) (ltB a b c d e f) 4 := by
  decide +kernel
end Go.Proofs.YtfcaigggacgfkaaDoor.Sp
