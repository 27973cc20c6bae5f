/- The two powers that a number's length stands between. -/
import Derived.Lib.BitFns
namespace Go.Proofs.YtfohinlldchdpaaGreatDoor.Rg

set_option linter.unusedVariables false

theorem bl_spec : ∀ (f x : Nat), f ≤ 64 → x < 2 ^ f → x < 2 ^ Lib.bitLen x ∧ Lib.bitLen x ≤ f ∧ (x ≠ 0 → 1 ≤ Lib.bitLen x ∧ 2 ^ (Lib.bitLen x - 1) ≤ x)
  | 0, x, _, h => by
    obtain rfl : x = 0 := by simp at h; omega
    have hz : Lib.bitLen 0 = 0 := by decide
    rw [hz]; simp
  | f + 1, x, hf, h => by
    by_cases h0 : x = 0
    · subst h0
      have hz : Lib.bitLen 0 = 0 := by decide
      rw [hz]; simp
    · have h64 : x < 2 ^ 64 := Nat.lt_of_lt_of_le h (Nat.pow_le_pow_right (by omega) hf)
      have hh := Lib.bitLen_half x h0 h64
      obtain ⟨i1, i2, i3⟩ := bl_spec f (x / 2) (by omega) (by rw [Nat.pow_succ] at h; omega)
      rw [hh]
      refine ⟨by rw [Nat.add_comm, Nat.pow_succ]; omega, by omega, fun _ => ⟨by omega, ?_⟩⟩
      rw [show 1 + Lib.bitLen (x / 2) - 1 = Lib.bitLen (x / 2) by omega]
      by_cases h1 : x / 2 = 0
      · have hz : Lib.bitLen 0 = 0 := by decide
        rw [h1, hz]; simp; omega
      · obtain ⟨j1, j2⟩ := i3 h1
        rw [show Lib.bitLen (x / 2) = Lib.bitLen (x / 2) - 1 + 1 by omega, Nat.pow_succ]; omega
end Go.Proofs.YtfohinlldchdpaaGreatDoor.Rg
