/- TlD: the document's Pow, Cut to 22 and 16 bits. -/
import Derived.Test.YtfpmajlgbipbmaaTsA
namespace Go.Proofs.Ytfpmajlgbipbmaa.Tl
open Go.RowKit Go.Proofs.Ytfpmajlgbipbmaa.Row
set_option linter.unusedVariables false

theorem pow_bd {k m : Nat} (h : k ≤ m) : (1 : Int) ≤ 2 ^ k ∧ (2 : Int) ^ k ≤ 2 ^ m := by
  have h1 : 1 ≤ 2 ^ k := Nat.one_le_two_pow
  have h2 : 2 ^ k ≤ 2 ^ m := Nat.pow_le_pow_right (by omega) h
  exact ⟨by exact_mod_cast h1, by exact_mod_cast h2⟩

theorem pow_any (n : Int) (w : World) (h1 : 0 ≤ n) (h2 : n ≤ 62) :
    Calls Try.prog 44 #[.int .i64 n] w fun e w' => e = .returned (.int .i64 (2 ^ n.toNat)) ∧ w = w' := by
  go_enter Try.func44, Try.ntmps44
  go_wp2
  go_loop [3, 4] (fun p i => ∃ k : Nat, (k : Int) ≤ n ∧ i = .int .i64 k ∧ p = .int .i64 (2 ^ k)) (fun _ i => n.toNat - (intOf i).toNat)
  case atStart => exact ⟨0, by omega, rfl, rfl⟩
  case round =>
    obtain ⟨k, hk, rfl, rfl⟩ := hrel
    by_cases hlt : (k : Int) < n
    · obtain ⟨hp, hq⟩ := pow_bd (show k ≤ 61 by omega)
      simp only [Int.reducePow] at hq
      go_wp2
      go_round
      case rel => exact ⟨k + 1, by omega, by go_num, by rw [Int.pow_succ, Int.mul_comm]⟩
      case measure => simp [intOf]; omega
    · go_wp2
      go_ret
      exact ⟨ret_int (by rw [show n.toNat = k by omega]), rfl⟩

theorem pow_as (n p : Int) (w : World) (h1 : 0 ≤ n) (h2 : n ≤ 62) (h : 2 ^ n.toNat = p) :
    Calls Try.prog 44 #[.int .i64 n] w fun e w' => e = .returned (.int .i64 p) ∧ w = w' := by
  subst h; exact pow_any n w h1 h2

theorem refCut22 (x p : Int) (w : World) (h : ct22 x = p) :
    Calls Try.prog 28 #[.int .i64 x, .int .i64 22] w fun e w' => e = .returned (.int .i64 p) ∧ w = w' := by
  subst h
  by_cases c1 : x < -2097152
  · go_enter Try.func28, Try.ntmps28
    go_wp2_with (go_at_call 44; (with_reducible refine (pow_as 21 2097152 _ (by omega) (by omega) (by decide)).mono ?_); rintro e w' ⟨rfl, rfl⟩)
    go_ret
    exact ⟨ret_int (by unfold ct22; omega), rfl⟩
  · by_cases c2 : 2097151 < x
    · go_enter Try.func28, Try.ntmps28
      go_wp2_with (go_at_call 44; (with_reducible refine (pow_as 21 2097152 _ (by omega) (by omega) (by decide)).mono ?_); rintro e w' ⟨rfl, rfl⟩)
      go_ret
      exact ⟨ret_int (by unfold ct22; omega), rfl⟩
    · go_enter Try.func28, Try.ntmps28
      go_wp2_with (go_at_call 44; (with_reducible refine (pow_as 21 2097152 _ (by omega) (by omega) (by decide)).mono ?_); rintro e w' ⟨rfl, rfl⟩)
      go_ret
      exact ⟨ret_int (by unfold ct22; omega), rfl⟩

theorem refCut16 (x p : Int) (w : World) (h : ct16 x = p) :
    Calls Try.prog 28 #[.int .i64 x, .int .i64 16] w fun e w' => e = .returned (.int .i64 p) ∧ w = w' := by
  subst h
  by_cases c1 : x < -32768
  · go_enter Try.func28, Try.ntmps28
    go_wp2_with (go_at_call 44; (with_reducible refine (pow_as 15 32768 _ (by omega) (by omega) (by decide)).mono ?_); rintro e w' ⟨rfl, rfl⟩)
    go_ret
    exact ⟨ret_int (by unfold ct16; omega), rfl⟩
  · by_cases c2 : 32767 < x
    · go_enter Try.func28, Try.ntmps28
      go_wp2_with (go_at_call 44; (with_reducible refine (pow_as 15 32768 _ (by omega) (by omega) (by decide)).mono ?_); rintro e w' ⟨rfl, rfl⟩)
      go_ret
      exact ⟨ret_int (by unfold ct16; omega), rfl⟩
    · go_enter Try.func28, Try.ntmps28
      go_wp2_with (go_at_call 44; (with_reducible refine (pow_as 15 32768 _ (by omega) (by omega) (by decide)).mono ?_); rintro e w' ⟨rfl, rfl⟩)
      go_ret
      exact ⟨ret_int (by unfold ct16; omega), rfl⟩
end Go.Proofs.Ytfpmajlgbipbmaa.Tl
