/- Plain mathematics of the bands: their places, sizes of waves, sums, what fills a band. -/
import Derived.Lib.BitFns
namespace Go.Proofs.YtfcaigggacgfkaaDoor.Lv

def fs : Nat → Nat
  | 0 => 0
  | 1 => 2
  | 2 => 4
  | 3 => 8
  | _ => 16
/-- The band b's first wave, and that behind its last one; 0 of no band. -/
def lo (b : Int) : Nat := if 0 ≤ b ∧ b < 4 then fs b.toNat else 0
def hi (b : Int) : Nat := if 0 ≤ b ∧ b < 4 then fs (b.toNat + 1) else 0
theorem band_cases (b : Int) : (¬ (0 ≤ b ∧ b < 4) ∧ lo b = 0 ∧ hi b = 0) ∨ (0 ≤ b ∧ b < 4 ∧ lo b < hi b ∧ hi b ≤ 16) := by
  unfold lo hi
  by_cases h : 0 ≤ b ∧ b < 4
  · rw [if_pos h, if_pos h]
    refine .inr ⟨h.1, h.2, ?_⟩
    have : b = 0 ∨ b = 1 ∨ b = 2 ∨ b = 3 := by omega
    rcases this with rfl | rfl | rfl | rfl <;> decide
  · rw [if_neg h, if_neg h]; exact .inl ⟨h, rfl, rfl⟩
theorem lo_nat (b : Nat) (h : b < 4) : lo b = fs b := by unfold lo; rw [if_pos (by omega)]; rfl
theorem hi_nat (b : Nat) (h : b < 4) : hi b = fs (b + 1) := by unfold hi; rw [if_pos (by omega)]; rfl

/-- A number without its sign, 2^40 at most. -/
def sz (x : Int) : Int := if x < -1099511627776 ∨ 1099511627776 < x then 1099511627776 else if x < 0 then -x else x
def hld (x b : Int) : Int := max (-b) (min x b)
def uns (x : Int) : Int := max x (-x)
theorem sz_bd (x : Int) : 0 ≤ sz x ∧ sz x ≤ 1099511627776 := by unfold sz; split <;> (try split) <;> omega
theorem uns_hld (x : Int) : uns (hld x 1099511627776) = sz x := by unfold uns hld sz; split <;> (try split) <;> omega
theorem hld_bd (x b : Int) (h : 0 ≤ b) : -b ≤ hld x b ∧ hld x b ≤ b := by unfold hld; omega

def sm (g : Nat → Int) : Nat → Int
  | 0 => 0
  | n + 1 => sm g n + g n
theorem sm_bd (g : Nat → Int) (B : Int) (h : ∀ i, 0 ≤ g i ∧ g i ≤ B) : ∀ n : Nat, 0 ≤ sm g n ∧ sm g n ≤ n * B
  | 0 => by simp [sm]
  | n + 1 => by
    have h1 := sm_bd g B h n
    have h2 := h n
    have e : ((n + 1 : Nat) : Int) * B = n * B + B := by rw [Int.natCast_add, Int.add_mul]; simp
    simp only [sm]
    rw [e]
    omega
theorem sm_ext (f g : Nat → Int) : ∀ n, (∀ i, i < n → f i = g i) → sm f n = sm g n
  | 0, _ => rfl
  | n + 1, h => by simp only [sm]; rw [sm_ext f g n fun i hi => h i (by omega), h n (by omega)]

/-- The level of n waves. -/
def lv (f : Nat → Int) (n : Nat) : Int := min ((Lib.bitLen (sm (fun i => sz (f i)) n).natAbs : Nat) : Int) 20
theorem lv_ext (f g : Nat → Int) (n : Nat) (h : ∀ i, i < n → sz (f i) = sz (g i)) : lv f n = lv g n := by unfold lv; rw [sm_ext _ _ n h]
/-- The level of the band b of a frame. -/
def lvB (f : Nat → Int) (b : Nat) : Int := lv (fun i => f (fs b + i)) (fs (b + 1) - fs b)

/-- Are all pulses such as may be? -/
def okY (y : Nat → Int) : Nat → Bool
  | 0 => true
  | n + 1 => okY y n && decide (-8 ≤ y n ∧ y n ≤ 8)
theorem okY_iff (y : Nat → Int) : ∀ n, okY y n = true ↔ ∀ i, i < n → -8 ≤ y i ∧ y i ≤ 8
  | 0 => by simp [okY]
  | n + 1 => by
    simp only [okY, Bool.and_eq_true, decide_eq_true_eq, okY_iff y n]
    constructor
    · intro h i hi
      by_cases e : i = n
      · subst e; exact h.2
      · exact h.1 i (by omega)
    · intro h; exact ⟨fun i hi => h i (by omega), h n (by omega)⟩
/-- How many pulses there are, 0 of such as may not be. -/
def cnt (y : Nat → Int) (n : Nat) : Int := if n ≤ 8 ∧ okY y n = true then sm (fun i => uns (y i)) n else 0
theorem uns_bd {x : Int} (h1 : -8 ≤ x) (h2 : x ≤ 8) : 0 ≤ uns x ∧ uns x ≤ 8 := by unfold uns; omega
theorem smu_bd (y : Nat → Int) : ∀ n, okY y n = true → 0 ≤ sm (fun i => uns (y i)) n ∧ sm (fun i => uns (y i)) n ≤ 8 * n
  | 0, _ => by simp [sm]
  | n + 1, h => by
    have h' := (okY_iff y (n + 1)).1 h
    have h1 := smu_bd y n ((okY_iff y n).2 fun i hi => h' i (by omega))
    have h2 := uns_bd (h' n (by omega)).1 (h' n (by omega)).2
    simp only [sm]
    omega
theorem cnt_bd (y : Nat → Int) (n : Nat) : 0 ≤ cnt y n ∧ cnt y n ≤ 64 := by
  unfold cnt
  by_cases h : n ≤ 8 ∧ okY y n = true
  · rw [if_pos h]; have := smu_bd y n h.2; omega
  · rw [if_neg h]; omega

/-- A band's wave. -/
def flv (l k x : Int) : Int := (x * (3 * 2 ^ l.toNat)).tdiv (4 * k)
def fl (l : Int) (y : Nat → Int) (n i : Nat) : Int := if l < 1 ∨ 20 < l ∨ cnt y n = 0 then 0 else flv l (cnt y n) (y i)
theorem fl_off {l : Int} {y : Nat → Int} {n : Nat} (h : l < 1 ∨ 20 < l ∨ cnt y n = 0) (i : Nat) : fl l y n i = 0 := if_pos h
theorem fl_on {l : Int} {y : Nat → Int} {n : Nat} (h : ¬ (l < 1 ∨ 20 < l ∨ cnt y n = 0)) (i : Nat) : fl l y n i = flv l (cnt y n) (y i) := if_neg h
theorem mul_bd (a b c d : Int) (h1 : -c ≤ a) (h2 : a ≤ c) (h3 : -d ≤ b) (h4 : b ≤ d) : -(c * d) ≤ a * b ∧ a * b ≤ c * d := by
  have p1 := Int.mul_nonneg (show 0 ≤ c - a by omega) (show 0 ≤ d - b by omega)
  have p2 := Int.mul_nonneg (show 0 ≤ c + a by omega) (show 0 ≤ d + b by omega)
  have p3 := Int.mul_nonneg (show 0 ≤ c - a by omega) (show 0 ≤ d + b by omega)
  have p4 := Int.mul_nonneg (show 0 ≤ c + a by omega) (show 0 ≤ d - b by omega)
  rw [Int.sub_mul, Int.mul_sub, Int.mul_sub] at p1
  rw [Int.add_mul, Int.mul_add, Int.mul_add] at p2
  rw [Int.sub_mul, Int.mul_add, Int.mul_add] at p3
  rw [Int.add_mul, Int.mul_sub, Int.mul_sub] at p4
  omega

theorem pow_bd {k m : Nat} (h : k ≤ m) : (1 : Int) ≤ 2 ^ k ∧ (2 : Int) ^ k ≤ 2 ^ m := by
  have h1 : 1 ≤ 2 ^ k := Nat.one_le_two_pow
  have h2 : 2 ^ k ≤ 2 ^ m := Nat.pow_le_pow_right (by omega) h
  exact ⟨by exact_mod_cast h1, by exact_mod_cast h2⟩
end Go.Proofs.YtfcaigggacgfkaaDoor.Lv
