/- Plain mathematics of a range coder, third part: a number's bytes, a number added to them with a carry, zero bytes behind. -/
import Derived.Test.YtidbagkkkpfkbaaDoorRgMath2
namespace Go.Proofs.YtidbagkkkpfkbaaDoor.Rg

/-- The byte number i of L, in n bytes, the highest first. -/
def dg (L n i : Nat) : Nat := L / 256 ^ (n - 1 - i) % 256
theorem dg_lt (L n i : Nat) : dg L n i < 256 := Nat.mod_lt _ (by omega)
theorem digit_dg {N G i : Nat} (h : i < 4 + G) : digit N G i = dg N (4 + G) i := by
  unfold digit dg
  rw [if_pos h, show 4 + G - 1 - i = 3 + G - i by omega]

/-- What is carried, and still to be added, where the k lowest bytes are done. -/
def cr (L a k : Nat) : Nat := (L % 256 ^ k + a) / 256 ^ k
theorem cr_zero (L a : Nat) : cr L a 0 = a := by unfold cr; simp [Nat.mod_one]
theorem cr_split (L k : Nat) : L % 256 ^ (k + 1) = L / 256 ^ k % 256 * 256 ^ k + L % 256 ^ k := by
  rw [Nat.pow_succ, Nat.mod_mul, Nat.mul_comm (256 ^ k)]; omega
theorem cr_next (L a k : Nat) : cr L a (k + 1) = (cr L a k + L / 256 ^ k % 256) / 256 := by
  unfold cr
  rw [cr_split, Nat.pow_succ, ← Nat.div_div_eq_div_mul]
  have hp : 0 < 256 ^ k := Nat.pow_pos (by omega)
  generalize L / 256 ^ k % 256 = d
  generalize L % 256 ^ k = m
  generalize 256 ^ k = p at *
  rw [show d * p + m + a = m + a + p * d by rw [Nat.mul_comm p]; omega, Nat.add_mul_div_left _ _ hp]
theorem cr_digit (L a k : Nat) : (cr L a k + L / 256 ^ k % 256) % 256 = (L + a) / 256 ^ k % 256 := by
  unfold cr
  have hp : 0 < 256 ^ k := Nat.pow_pos (by omega)
  have e := Nat.div_add_mod L (256 ^ k)
  generalize hq : L / 256 ^ k = q at *
  generalize L % 256 ^ k = m at *
  generalize 256 ^ k = p at *
  rw [show L + a = m + a + p * q by omega, Nat.add_mul_div_left _ _ hp]
  omega
theorem cr_end {L a n : Nat} (h : L + a < 256 ^ n) : cr L a n = 0 := by
  unfold cr
  rw [Nat.mod_eq_of_lt (by omega)]
  exact Nat.div_eq_of_lt h
theorem cr_dg {L a n i : Nat} : (cr L a (n - 1 - i) + dg L n i) % 256 = dg (L + a) n i := cr_digit L a (n - 1 - i)
theorem cr_up {L a n i : Nat} (hi : i < n) : cr L a (n - i) = (cr L a (n - 1 - i) + dg L n i) / 256 := by
  have := cr_next L a (n - 1 - i)
  rw [show n - 1 - i + 1 = n - i by omega] at this
  exact this
theorem cr_le (L a k : Nat) : cr L a k ≤ a := by
  unfold cr
  have hp : 0 < 256 ^ k := Nat.pow_pos (by omega)
  by_cases h : a = 0
  · subst h
    rw [Nat.add_zero, Nat.div_eq_of_lt (Nat.mod_lt _ hp)]
    omega
  · have hm := Nat.mod_lt L hp
    have : (L % 256 ^ k + a) / 256 ^ k < a + 1 := by
      rw [Nat.div_lt_iff_lt_mul hp, Nat.add_mul, Nat.one_mul]
      have := Nat.le_mul_of_pos_right a hp
      omega
    omega

/-- Zero bytes behind. -/
theorem dg_shift {L n k i : Nat} (h2 : i < n + k) : dg (L * 256 ^ k) (n + k) i = if i < n then dg L n i else 0 := by
  unfold dg
  have hp : ∀ m, 0 < 256 ^ m := fun m => Nat.pow_pos (by omega)
  by_cases h : i < n
  · rw [if_pos h, show n + k - 1 - i = k + (n - 1 - i) by omega, Nat.pow_add, ← Nat.div_div_eq_div_mul, Nat.mul_div_cancel _ (hp k)]
  · rw [if_neg h]
    rw [show k = (n + k - 1 - i) + (k - (n + k - 1 - i)) by omega, Nat.pow_add, show n + (n + k - 1 - i + (k - (n + k - 1 - i))) - 1 - i = n + k - 1 - i by omega]
    rw [← Nat.mul_assoc, Nat.mul_right_comm, Nat.mul_div_cancel _ (hp _), show k - (n + k - 1 - i) = (k - (n + k - 1 - i) - 1) + 1 by omega, Nat.pow_succ, ← Nat.mul_assoc, Nat.mul_mod_left]
end Go.Proofs.YtidbagkkkpfkbaaDoor.Rg
