/- Texts of the walk, one behind the other. -/
import Derived.Test.YtfohinlldchdpaaGreatDoorEncPlaysM11
import Derived.Test.YtfohinlldchdpaaGreatDoorEncPlaysM1

section
/- Contracts of lapl's wide, left. -/
set_option maxRecDepth 100000
set_option linter.unusedVariables false
namespace Go.Proofs.YtfohinlldchdpaaGreatDoor.Lp
open Go.RowKit Go.Proofs.YtfohinlldchdpaaGreatDoor.Row

theorem wide_as (k : Nat) (z : Int) (u : Nat) (w : World) (hz : z = k) (h1 : 1 ≤ k) (h2 : k ≤ 24) (hu : wd k = u) :
    Calls Tryz.prog 195 #[.int .i64 z] w fun e w' => e = .returned (.int .i64 u) ∧ w = w' := by
  subst hz
  have HU := Lib.hid (show (5000 : Int) / 2 ^ (k - 1) = ((5000 / 2 ^ (k - 1) : Nat) : Int) ∧ max (5000 / 2 ^ (k - 1)) 8 = u from ⟨by norm_cast, by rw [← hu]; unfold wd; rw [if_neg (by omega)]⟩)
  clear hu
  go_enter Tryz.func195, Tryz.ntmps195
  go_wp2
  all_goals
    obtain ⟨h3, h4⟩ := HU.out
    obtain ⟨Q, hQ⟩ : ∃ Q : Int, (5000 : Int) / 2 ^ (k - 1) = Q := ⟨_, rfl⟩
    rw [hQ] at h h3 ⊢
    clear hQ HU
    generalize 5000 / 2 ^ (k - 1) = q at *
    go_ret
    exact ⟨ret_int (by omega), rfl⟩

theorem left_as (w : World) :
    Calls Tryz.prog 194 #[] w fun e w' => e = .returned (.int .i64 12568) ∧ w = w' := by
  go_enter Tryz.func194, Tryz.ntmps194
  go_wp2
  go_loop [1, 2] (fun x i => ∃ k : Nat, 1 ≤ k ∧ k ≤ 25 ∧ i = .int .i64 k ∧ x = .int .i64 (rest k)) (fun _ i => 100 - (intOf i).toNat)
  case atStart => exact ⟨1, by omega, by omega, rfl, rfl⟩
  case round =>
    obtain ⟨k, hk1, hk2, rfl, rfl⟩ := hrel
    by_cases hk : k ≤ 24
    · obtain ⟨u, hu⟩ : ∃ u, wd k = u := ⟨_, rfl⟩
      have HN := Lib.hid (hu ▸ rest_next hk1 hk)
      have HL := rest_le hk2
      have HW := hu ▸ wd_le k
      have HU := Lib.hid hu
      clear hu
      go_wp2_with (go_at_call 195; (with_reducible refine (wide_as k _ u _ rfl hk1 hk HU.out).mono ?_); rintro e w' ⟨rfl, rfl⟩)
      go_round
      case rel => exact ⟨k + 1, by omega, by omega, by go_num, by have := HN.out; congr 1; omega⟩
      case measure => simp [intOf]; omega
    · obtain rfl : k = 25 := by omega
      go_wp2
      go_ret
      exact ⟨rfl, rfl⟩
end Go.Proofs.YtfohinlldchdpaaGreatDoor.Lp
end
