/- Plain mathematics of a range coder, second part: used bits, and how they grow. -/
import Derived.Test.YtidbagkkkpfkbaaDoorRgMath
import Derived.Test.YtidbagkkkpfkbaaDoorBlSpec
namespace Go.Proofs.YtidbagkkkpfkbaaDoor.Rg

theorem bl_lt {x k : Nat} (hx : x < 2 ^ 64) (hk : k ≤ 64) : Lib.bitLen x ≤ k ↔ x < 2 ^ k :=
  ⟨fun h => Nat.lt_of_lt_of_le (bl_spec 64 x (Nat.le_refl _) hx).1 (Nat.pow_le_pow_right (by omega) h), fun h => Lib.bitLen_le x k hk h⟩
theorem bl_mono {x y : Nat} (h : x ≤ y) (hy : y < 2 ^ 64) : Lib.bitLen x ≤ Lib.bitLen y := by
  have h1 := bl_spec 64 y (Nat.le_refl _) hy
  exact (bl_lt (Nat.lt_of_le_of_lt h hy) h1.2.1).2 (Nat.lt_of_le_of_lt h h1.1)
theorem bl_mul {q k : Nat} (h0 : 1 ≤ q) (h : q * 2 ^ k < 2 ^ 64) : Lib.bitLen (q * 2 ^ k) = k + Lib.bitLen q := by
  have hp : 0 < 2 ^ k := Nat.pow_pos (by omega)
  have := Lib.bitLen_shift k (q * 2 ^ k) (Nat.le_mul_of_pos_left _ (by omega)) h
  rw [Nat.mul_div_cancel _ hp] at this
  exact this
theorem pow256 (k : Nat) : 256 ^ k = 2 ^ (8 * k) := by rw [Nat.pow_mul]

/-- Bits that are used. -/
def St.used (x : St) : Int := 8 * (x.g : Int) + 32 - (Lib.bitLen x.r : Nat)
theorem used_put {x : St} {c : Cl} (hx : x.ok) (hc : c.ok) : (x.put c).used = 8 * (x.g : Int) + 32 - (Lib.bitLen (x.r / c.t * c.w) : Nat) := by
  obtain ⟨b1, b2, b3, b4⟩ := step_bd hx hc
  obtain ⟨q1, q2⟩ := sh_spec b3 b4
  have eg : (x.put c).g = x.g + sh (x.r / c.t * c.w) := rfl
  have er : (x.put c).r = x.r / c.t * c.w * 256 ^ sh (x.r / c.t * c.w) := rfl
  unfold St.used
  rw [eg, er, pow256, bl_mul b3 (by rw [← pow256]; omega)]
  omega
theorem used_more {x : St} {c : Cl} (hx : x.ok) (hc : c.ok) : x.used ≤ (x.put c).used := by
  obtain ⟨b1, b2, b3, b4⟩ := step_bd hx hc
  have h2 := hx.2.1
  rw [used_put hx hc]
  have := bl_mono (x := x.r / c.t * c.w) (y := x.r) (by omega) (by omega)
  unfold St.used
  omega
theorem used_share {x : St} {c : Cl} {j : Nat} (hx : x.ok) (hc : c.ok) (hj : c.t ≤ c.w * 2 ^ j) : (x.put c).used ≤ x.used + j + 2 := by
  obtain ⟨b1, b2, b3, b4⟩ := step_bd hx hc
  obtain ⟨h1, h2, _⟩ := hx
  rw [used_put ⟨h1, h2, ‹_›⟩ hc]
  unfold St.used
  have hr := (bl_lt (x := x.r) (k := 32) (by omega) (by omega)).2 (by omega)
  by_cases h30 : 30 ≤ j
  · omega
  · obtain ⟨t1, t2, w1, _⟩ := hc
    have e1 := Nat.div_add_mod x.r c.t
    have e2 := Nat.mod_lt x.r (show c.t > 0 by omega)
    have e3 : x.r / c.t * c.t ≤ x.r / c.t * (c.w * 2 ^ j) := Nat.mul_le_mul_left _ hj
    rw [Nat.mul_comm c.t] at e1
    rw [← Nat.mul_assoc] at e3
    have e4 : x.r ≤ x.r / c.t * c.w * 2 ^ (j + 1) := by rw [Nat.pow_succ, ← Nat.mul_assoc]; omega
    have p1 : 2 ^ (j + 1) ≤ 2 ^ 30 := Nat.pow_le_pow_right (by omega) (by omega)
    have p2 : x.r / c.t * c.w * 2 ^ (j + 1) < 2 ^ 64 := Nat.lt_of_le_of_lt (Nat.mul_le_mul b4 p1) (by omega)
    have m := bl_mono e4 p2
    rw [bl_mul b3 p2] at m
    omega
/-- The share is found by halving upward. -/
theorem half_up {t j u : Nat} (h : t ≤ u * 2 ^ j) : t ≤ (u + 1) / 2 * 2 ^ (j + 1) := by
  rw [Nat.pow_succ, Nat.mul_comm (2 ^ j) 2, ← Nat.mul_assoc]
  exact Nat.le_trans h (Nat.mul_le_mul_right _ (by omega))
/-- Used bits of coders that a list of cells makes are at least 0. -/
theorem used_nonneg {x : St} (hx : x.ok) : 0 ≤ x.used := by
  have := (bl_lt (x := x.r) (k := 32) (by have := hx.2.1; omega) (by omega)).2 (by have := hx.2.1; omega)
  unfold St.used
  omega
/-- How far cells go: no more than two bytes a cell. -/
theorem put_g {x : St} {c : Cl} (hx : x.ok) (hc : c.ok) : (x.put c).g ≤ x.g + 2 := by
  obtain ⟨b1, b2, b3, b4⟩ := step_bd hx hc
  show x.g + sh (x.r / c.t * c.w) ≤ x.g + 2
  have : 256 ≤ x.r / c.t * c.w := Nat.le_trans (show 256 ≤ x.r / c.t by omega) (Nat.le_mul_of_pos_right _ hc.2.2.1)
  unfold sh
  split <;> (try split) <;> (try split) <;> omega
theorem run_g_le : ∀ {l : List Cl} {x : St}, x.ok → (∀ c ∈ l, c.ok) → (x.run l).g ≤ x.g + 2 * l.length
  | [], _, _, _ => Nat.le_refl _
  | c :: l, x, hx, hl => by
    have hc := hl c (by simp)
    have h1 := put_g hx hc
    have h2 := run_g_le (l := l) (x := x.put c) (put_ok hx hc) fun d hd => hl d (by simp [hd])
    show ((x.put c).run l).g ≤ _
    simp only [List.length_cons]
    omega
theorem run_snoc (x : St) (l : List Cl) (c : Cl) : x.run (l ++ [c]) = (x.run l).put c := by unfold St.run; rw [List.foldl_append]; rfl
theorem run_append (x : St) (l m : List Cl) : x.run (l ++ m) = (x.run l).run m := by unfold St.run; rw [List.foldl_append]
end Go.Proofs.YtidbagkkkpfkbaaDoor.Rg
