/- MdRef beside Row: the document's Pow, Cut, Shift. -/
import Derived.Test.YtfpmajlgbipbmaaMrA
import Derived.Test.YtfpmajlgbipbmaaArRef
namespace Go.Proofs.Ytfpmajlgbipbmaa.Md
open Go.RowKit Go.Proofs.Ytfpmajlgbipbmaa.Row Go.Proofs.Ytfpmajlgbipbmaa.Ang
set_option linter.unusedVariables false

theorem pow_bd {k m : Nat} (h : k ≤ m) : (1 : Int) ≤ 2 ^ k ∧ (2 : Int) ^ k ≤ 2 ^ m := by
  have h1 : 1 ≤ 2 ^ k := Nat.one_le_two_pow
  have h2 : 2 ^ k ≤ 2 ^ m := Nat.pow_le_pow_right (by omega) h
  exact ⟨by exact_mod_cast h1, by exact_mod_cast h2⟩

theorem pow_any (n : Int) (w : World) (h1 : 0 ≤ n) (h2 : n ≤ 62) :
    Calls Try.prog 44 #[.int .i64 n] w fun e w' => e = .returned (.int .i64 (2 ^ n.toNat)) ∧ w = w' := by
  go_enter Try.func44, Try.ntmps44
  go_wp2
  go_loop [3, 4] (fun p i => ∃ k : Nat, (k : Int) ≤ n ∧ i = .int .i64 k ∧ p = .int .i64 (2 ^ k)) (fun _ i => n.toNat - (intOf i).toNat)
  case atStart => exact ⟨0, by omega, rfl, rfl⟩
  case round =>
    obtain ⟨k, hk, rfl, rfl⟩ := hrel
    by_cases hlt : (k : Int) < n
    · obtain ⟨hp, hq⟩ := pow_bd (show k ≤ 61 by omega)
      simp only [Int.reducePow] at hq
      go_wp2
      go_round
      case rel => exact ⟨k + 1, by omega, by go_num, by rw [Int.pow_succ, Int.mul_comm]⟩
      case measure => simp [intOf]; omega
    · go_wp2
      go_ret
      exact ⟨ret_int (by rw [show n.toNat = k by omega]), rfl⟩

theorem pow_as (n p : Int) (w : World) (h1 : 0 ≤ n) (h2 : n ≤ 62) (h : 2 ^ n.toNat = p) :
    Calls Try.prog 44 #[.int .i64 n] w fun e w' => e = .returned (.int .i64 p) ∧ w = w' := by
  subst h; exact pow_any n w h1 h2

theorem refCut_any (x : Int) (w : World) :
    Calls Try.prog 28 #[.int .i64 x, .int .i64 32] w fun e w' => e = .returned (.int .i64 (ct x)) ∧ w = w' := by
  by_cases c1 : x < -2147483648
  · go_enter Try.func28, Try.ntmps28
    go_wp2_with (go_at_call 44; (with_reducible refine (pow_as 31 2147483648 _ (by omega) (by omega) (by decide)).mono ?_); rintro e w' ⟨rfl, rfl⟩)
    go_ret
    exact ⟨ret_int (by unfold ct; omega), rfl⟩
  · by_cases c2 : 2147483647 < x
    · go_enter Try.func28, Try.ntmps28
      go_wp2_with (go_at_call 44; (with_reducible refine (pow_as 31 2147483648 _ (by omega) (by omega) (by decide)).mono ?_); rintro e w' ⟨rfl, rfl⟩)
      go_ret
      exact ⟨ret_int (by unfold ct; omega), rfl⟩
    · go_enter Try.func28, Try.ntmps28
      go_wp2_with (go_at_call 44; (with_reducible refine (pow_as 31 2147483648 _ (by omega) (by omega) (by decide)).mono ?_); rintro e w' ⟨rfl, rfl⟩)
      go_ret
      exact ⟨ret_int (by unfold ct; omega), rfl⟩

theorem refCut_as (x p : Int) (w : World) (h : ct x = p) :
    Calls Try.prog 28 #[.int .i64 x, .int .i64 32] w fun e w' => e = .returned (.int .i64 p) ∧ w = w' := by
  subst h; exact refCut_any x w

theorem refShift_15 (x r : Int) (w : World) (h1 : -1099511627776 ≤ x) (h2 : x ≤ 1099511627776) (h : near x = r) :
    Calls Try.prog 42 #[.int .i64 x, .int .i64 15] w fun e w' => e = .returned (.int .i64 r) ∧ w = w' := by
  subst h
  go_enter Try.func42, Try.ntmps42
  go_wp2_with (first
    | (go_at_call 44; (with_reducible refine (pow_as 14 16384 _ (by omega) (by omega) (by decide)).mono ?_); rintro e w' ⟨rfl, rfl⟩)
    | (go_at_call 44; (with_reducible refine (pow_as 15 32768 _ (by omega) (by omega) (by decide)).mono ?_); rintro e w' ⟨rfl, rfl⟩)
    | (go_at_call 52; refine (down_any _ _ _ (by omega) (by omega) (by omega) (by omega)).mono ?_; rintro e w' ⟨rfl, rfl⟩))
  go_ret
  exact ⟨rfl, rfl⟩

theorem refShift_16 (x r : Int) (w : World) (h1 : -1099511627776 ≤ x) (h2 : x ≤ 1099511627776) (h : nr16 x = r) :
    Calls Try.prog 42 #[.int .i64 x, .int .i64 16] w fun e w' => e = .returned (.int .i64 r) ∧ w = w' := by
  subst h
  go_enter Try.func42, Try.ntmps42
  go_wp2_with (first
    | (go_at_call 44; (with_reducible refine (pow_as 15 32768 _ (by omega) (by omega) (by decide)).mono ?_); rintro e w' ⟨rfl, rfl⟩)
    | (go_at_call 44; (with_reducible refine (pow_as 16 65536 _ (by omega) (by omega) (by decide)).mono ?_); rintro e w' ⟨rfl, rfl⟩)
    | (go_at_call 52; refine (down_any _ _ _ (by omega) (by omega) (by omega) (by omega)).mono ?_; rintro e w' ⟨rfl, rfl⟩))
  go_ret
  exact ⟨rfl, rfl⟩

theorem refShift_17 (x r : Int) (w : World) (h1 : -1099511627776 ≤ x) (h2 : x ≤ 1099511627776) (h : nr17 x = r) :
    Calls Try.prog 42 #[.int .i64 x, .int .i64 17] w fun e w' => e = .returned (.int .i64 r) ∧ w = w' := by
  subst h
  go_enter Try.func42, Try.ntmps42
  go_wp2_with (first
    | (go_at_call 44; (with_reducible refine (pow_as 16 65536 _ (by omega) (by omega) (by decide)).mono ?_); rintro e w' ⟨rfl, rfl⟩)
    | (go_at_call 44; (with_reducible refine (pow_as 17 131072 _ (by omega) (by omega) (by decide)).mono ?_); rintro e w' ⟨rfl, rfl⟩)
    | (go_at_call 52; refine (down_any _ _ _ (by omega) (by omega) (by omega) (by omega)).mono ?_; rintro e w' ⟨rfl, rfl⟩))
  go_ret
  exact ⟨rfl, rfl⟩
end Go.Proofs.Ytfpmajlgbipbmaa.Md
