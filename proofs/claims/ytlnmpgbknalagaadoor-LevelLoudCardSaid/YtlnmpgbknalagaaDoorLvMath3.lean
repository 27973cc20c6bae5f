/- Plain mathematics of levels: of nothing, of other signs, of waves twice as great. -/
import Derived.Test.YtlnmpgbknalagaaDoorLvMath2
namespace Go.Proofs.YtlnmpgbknalagaaDoor.Lv

theorem tmod15_bd (x : Int) : -32767 ≤ x.tmod 32768 ∧ x.tmod 32768 ≤ 32767 := by
  rcases Int.le_total 0 x with h | h
  · rw [Int.tmod_eq_emod_of_nonneg h]; omega
  · have e := Int.neg_tmod (-x) 32768
    rw [Int.neg_neg] at e
    rw [e, Int.tmod_eq_emod_of_nonneg (by omega)]; omega
def mdS (f : Nat → Int) (i : Nat) : Int := (f i).tmod 32768
def ngS (f : Nat → Int) (i : Nat) : Int := -mdS f i
def dbS (f : Nat → Int) (i : Nat) : Int := 2 * mdS f i
theorem mdS_bd (f : Nat → Int) (i : Nat) : -32767 ≤ mdS f i ∧ mdS f i ≤ 32767 := tmod15_bd (f i)

/-- Are the first n waves from p on all 0? -/
def zB (g : Nat → Int) (p : Nat) : Nat → Bool
  | 0 => true
  | n + 1 => zB g p n && (g (p + n) == 0)

theorem bit_zero (s : Nat) (h : s < 2 ^ 64) : Lib.bitLen s = 0 ↔ s = 0 := by
  constructor
  · intro e
    by_cases h0 : s = 0
    · exact h0
    · have := Lib.bitLen_half s h0 h; omega
  · intro e; subst e; decide
theorem bit_twice (s : Nat) (h0 : s ≠ 0) (h : s < 2 ^ 63) : Lib.bitLen (2 * s) = Lib.bitLen s + 1 := by
  have := Lib.bitLen_half (2 * s) (by omega) (by omega)
  rw [show 2 * s / 2 = s by omega] at this
  omega

theorem sz_small {x : Int} (h1 : -1099511627776 ≤ x) (h2 : x ≤ 1099511627776) : sz x = max x (-x) := by unfold sz; rw [if_neg (by omega)]; split <;> omega
theorem sm_small (f : Nat → Int) (p : Nat) : ∀ n : Nat, 0 ≤ sm (fun i => sz (mdS f (p + i))) n ∧ sm (fun i => sz (mdS f (p + i))) n ≤ 32767 * n
  | 0 => by simp [sm]
  | n + 1 => by
    have h1 := sm_small f p n
    have h2 := mdS_bd f (p + n)
    have h3 : 0 ≤ sz (mdS f (p + n)) ∧ sz (mdS f (p + n)) ≤ 32767 := by unfold sz; rw [if_neg (by omega)]; split <;> omega
    simp only [sm]
    omega
theorem sm_zero (f : Nat → Int) (p : Nat) : ∀ n : Nat, (sm (fun i => sz (mdS f (p + i))) n = 0) ↔ zB (mdS f) p n = true
  | 0 => by simp [sm, zB]
  | n + 1 => by
    have h0 := (sm_small f p n).1
    have ih := sm_zero f p n
    have h2 := mdS_bd f (p + n)
    have h3 : 0 ≤ sz (mdS f (p + n)) ∧ (sz (mdS f (p + n)) = 0 ↔ mdS f (p + n) = 0) := by unfold sz; rw [if_neg (by omega)]; split <;> omega
    simp only [sm, zB, Bool.and_eq_true, beq_iff_eq, ← ih]
    omega
theorem sm_twice (f : Nat → Int) (p : Nat) : ∀ n : Nat, sm (fun i => sz (dbS f (p + i))) n = 2 * sm (fun i => sz (mdS f (p + i))) n
  | 0 => rfl
  | n + 1 => by
    have ih := sm_twice f p n
    have h2 := mdS_bd f (p + n)
    have h3 : sz (dbS f (p + n)) = 2 * sz (mdS f (p + n)) := by
      unfold dbS
      rw [sz_small (by omega) (by omega), sz_small (by omega) (by omega)]
      omega
    simp only [sm]
    rw [ih, h3]
    omega

theorem lvB_neg (f : Nat → Int) (k : Nat) : lvB (ngS f) k = lvB (mdS f) k := by
  unfold lvB
  exact lv_ext _ _ _ fun i _ => by unfold ngS sz; split <;> split <;> (try split) <;> (try split) <;> omega
theorem lvB_zero (f : Nat → Int) (k : Nat) (h : fs (k + 1) - fs k ≤ 8) : lvB (mdS f) k = 0 ↔ zB (mdS f) (fs k) (fs (k + 1) - fs k) = true := by
  unfold lvB lv
  obtain ⟨h1, h2⟩ := sm_small f (fs k) (fs (k + 1) - fs k)
  rw [← sm_zero]
  generalize sm (fun i => sz (mdS f (fs k + i))) (fs (k + 1) - fs k) = s at *
  have hb := bit_zero s.natAbs (by omega)
  omega
theorem lvB_twice (f : Nat → Int) (k : Nat) (h : fs (k + 1) - fs k ≤ 8) (hz : zB (mdS f) (fs k) (fs (k + 1) - fs k) = false) : lvB (dbS f) k = lvB (mdS f) k + 1 ∧ 0 < lvB (mdS f) k ∧ lvB (mdS f) k ≤ 20 := by
  have hz' : ¬ lvB (mdS f) k = 0 := by rw [lvB_zero f k h, hz]; simp
  unfold lvB lv at *
  rw [sm_twice]
  obtain ⟨h1, h2⟩ := sm_small f (fs k) (fs (k + 1) - fs k)
  generalize sm (fun i => sz (mdS f (fs k + i))) (fs (k + 1) - fs k) = s at *
  have h3 : s.natAbs ≠ 0 := by
    intro e
    rw [e] at hz'
    exact hz' (by decide)
  have ht := bit_twice s.natAbs h3 (by omega)
  have hl := Lib.bitLen_le s.natAbs 18 (by omega) (by omega)
  rw [show (2 * s).natAbs = 2 * s.natAbs by omega, ht]
  omega
theorem fs_size (k : Nat) (h : k < 4) : fs (k + 1) - fs k ≤ 8 := by
  have : k = 0 ∨ k = 1 ∨ k = 2 ∨ k = 3 := by omega
  rcases this with rfl | rfl | rfl | rfl <;> decide
end Go.Proofs.YtlnmpgbknalagaaDoor.Lv
