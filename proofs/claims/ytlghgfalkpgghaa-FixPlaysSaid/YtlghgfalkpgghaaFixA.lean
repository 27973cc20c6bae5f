/- Contracts of the functions of package fix that call least: within, halfUp, Mul, Cut. -/
import Derived.Test.YtlghgfalkpgghaaRows
import Derived.WalkKit
import Derived.ProofKit
import Derived.OpenShut
import Derived.IntWalk
import Derived.Lib.Hide
namespace Go.Proofs.Ytlghgfalkpgghaa.Fix
open Go.RowKit

theorem ret_int {k : IntKind} {a b : Int} (h : a = b) : Ending.returned (.int k a) = .returned (.int k b) := by rw [h]
theorem ret_bool {a b : Bool} (h : a = b) : Ending.returned (.bool a) = .returned (.bool b) := by rw [h]

theorem within_yes (x b : Int) (w : World) (hb0 : 0 ≤ b) (hb1 : b ≤ 4611686018427387904) (h1 : -b ≤ x) (h2 : x ≤ b) :
    Calls Try.prog 21 #[.int .i64 x, .int .i64 b] w fun e w' => e = .returned (.bool true) ∧ w = w' := by
  go_enter Try.func21, Try.ntmps21
  go_wp2
  go_ret
  exact ⟨rfl, rfl⟩

theorem within_no (x b : Int) (w : World) (hb0 : 0 ≤ b) (hb1 : b ≤ 4611686018427387904) (h : x < -b ∨ b < x) :
    Calls Try.prog 21 #[.int .i64 x, .int .i64 b] w fun e w' => e = .returned (.bool false) ∧ w = w' := by
  rcases h with h | h
  · have h' : ¬ -b ≤ x := by omega
    clear h
    go_enter Try.func21, Try.ntmps21
    go_wp2
    go_ret
    exact ⟨rfl, rfl⟩
  · have h' : ¬ x ≤ b := by omega
    have h1 : -b ≤ x := by omega
    clear h
    go_enter Try.func21, Try.ntmps21
    go_wp2
    go_ret
    exact ⟨rfl, rfl⟩

theorem half_15 (x : Int) (w : World) (h1 : -9000000000000000000 ≤ x) (h2 : x ≤ 9000000000000000000) :
    Calls Try.prog 22 #[.int .i64 x, .int .i64 15] w fun e w' => e = .returned (.int .i64 ((x + 16384) / 32768)) ∧ w = w' := by
  go_enter Try.func22, Try.ntmps22
  go_wp2
  go_ret
  exact ⟨rfl, rfl⟩


/-- The product of 15 bits. -/
def mulS (a b : Int) : Int := (a * b + 16384) / 32768

theorem mul_bd (a b c d : Int) (h1 : -c ≤ a) (h2 : a ≤ c) (h3 : -d ≤ b) (h4 : b ≤ d) : -(c * d) ≤ a * b ∧ a * b ≤ c * d := by
  have p1 := Int.mul_nonneg (show 0 ≤ c - a by omega) (show 0 ≤ d - b by omega)
  have p2 := Int.mul_nonneg (show 0 ≤ c + a by omega) (show 0 ≤ d + b by omega)
  have p3 := Int.mul_nonneg (show 0 ≤ c - a by omega) (show 0 ≤ d + b by omega)
  have p4 := Int.mul_nonneg (show 0 ≤ c + a by omega) (show 0 ≤ d - b by omega)
  rw [Int.sub_mul, Int.mul_sub, Int.mul_sub] at p1
  rw [Int.add_mul, Int.mul_add, Int.mul_add] at p2
  rw [Int.sub_mul, Int.mul_add, Int.mul_add] at p3
  rw [Int.add_mul, Int.mul_sub, Int.mul_sub] at p4
  omega

theorem mul_in (a b : Int) (w : World) (h1 : -2147483648 ≤ a) (h2 : a ≤ 2147483648) (h3 : -2147483648 ≤ b) (h4 : b ≤ 2147483648) :
    Calls Try.prog 15 #[.int .i64 a, .int .i64 b] w fun e w' => e = .returned (.int .i64 (mulS a b)) ∧ w = w' := by
  obtain ⟨p1, p2⟩ := mul_bd a b 2147483648 2147483648 h1 h2 h3 h4
  simp only [Int.reduceMul, Int.reduceNeg] at p1 p2
  go_enter Try.func15, Try.ntmps15
  go_wp2_with (first
    | (go_at_call 21; refine (within_yes _ _ _ (by omega) (by omega) (by omega) (by omega)).mono ?_; rintro e w' ⟨rfl, rfl⟩)
    | (go_at_call 22; refine (half_15 _ _ (by omega) (by omega)).mono ?_; rintro e w' ⟨rfl, rfl⟩))
  go_ret
  exact ⟨rfl, rfl⟩

theorem mul_out (a b : Int) (w : World) (h : a < -2147483648 ∨ 2147483648 < a ∨ b < -2147483648 ∨ 2147483648 < b) :
    Calls Try.prog 15 #[.int .i64 a, .int .i64 b] w fun e w' => e = .returned (.int .i64 0) ∧ w = w' := by
  by_cases ha : a < -2147483648 ∨ 2147483648 < a
  · go_enter Try.func15, Try.ntmps15
    go_wp2_with (first
      | (go_at_call 21; refine (within_no _ _ _ (by omega) (by omega) (by omega)).mono ?_; rintro e w' ⟨rfl, rfl⟩))
    go_ret
    exact ⟨rfl, rfl⟩
  · have hb : b < -2147483648 ∨ 2147483648 < b := by omega
    have ha1 : -2147483648 ≤ a := by omega
    have ha2 : a ≤ 2147483648 := by omega
    clear h ha
    go_enter Try.func15, Try.ntmps15
    go_wp2_with (first
      | (go_at_call 21; refine (within_yes _ _ _ (by omega) (by omega) (by omega) (by omega)).mono ?_; rintro e w' ⟨rfl, rfl⟩)
      | (go_at_call 21; refine (within_no _ _ _ (by omega) (by omega) (by omega)).mono ?_; rintro e w' ⟨rfl, rfl⟩))
    go_ret
    exact ⟨rfl, rfl⟩

theorem cut_out (x n : Int) (w : World) (h : n < 1 ∨ 62 < n) :
    Calls Try.prog 9 #[.int .i64 x, .int .i64 n] w fun e w' => e = .returned (.int .i64 x) ∧ w = w' := by
  by_cases h1 : n < 1
  · clear h
    go_enter Try.func9, Try.ntmps9
    go_wp2
    go_ret
    exact ⟨rfl, rfl⟩
  · have h2 : 62 < n := by omega
    clear h
    go_enter Try.func9, Try.ntmps9
    go_wp2
    go_ret
    exact ⟨rfl, rfl⟩

theorem pow_bd {k m : Nat} (h : k ≤ m) : (1 : Int) ≤ 2 ^ k ∧ (2 : Int) ^ k ≤ 2 ^ m := by
  have h1 : 1 ≤ 2 ^ k := Nat.one_le_two_pow
  have h2 : 2 ^ k ≤ 2 ^ m := Nat.pow_le_pow_right (by omega) h
  exact ⟨by exact_mod_cast h1, by exact_mod_cast h2⟩

/-- What a number is cut to. -/
def cutS (x n : Int) : Int := if n < 1 ∨ 62 < n then x else max (-(2 ^ (n.toNat - 1))) (min x (2 ^ (n.toNat - 1) - 1))

theorem cut_in (x n : Int) (w : World) (h1 : 1 ≤ n) (h2 : n ≤ 62) :
    Calls Try.prog 9 #[.int .i64 x, .int .i64 n] w fun e w' => e = .returned (.int .i64 (cutS x n)) ∧ w = w' := by
  obtain ⟨hp, hq⟩ := pow_bd (show n.toNat - 1 ≤ 61 by omega)
  simp only [Int.reducePow] at hq
  have hs : cutS x n = max (-(2 ^ (n.toNat - 1))) (min x (2 ^ (n.toNat - 1) - 1)) := by unfold cutS; rw [if_neg (by omega)]
  have HS := Lib.hid hs
  clear hs
  go_enter Try.func9, Try.ntmps9
  go_wp2
  all_goals
    go_ret
    exact ⟨ret_int (by rw [HS.out]; omega), rfl⟩

theorem cut_any (x n : Int) (w : World) :
    Calls Try.prog 9 #[.int .i64 x, .int .i64 n] w fun e w' => e = .returned (.int .i64 (cutS x n)) ∧ w = w' := by
  by_cases h : n < 1 ∨ 62 < n
  · have hs : cutS x n = x := by unfold cutS; rw [if_pos h]
    rw [hs]
    exact cut_out x n w h
  · exact cut_in x n w (by omega) (by omega)

theorem half_any (x n : Int) (w : World) (h1 : 1 ≤ n) (h2 : n ≤ 40) (h3 : -4611686018427387904 ≤ x) (h4 : x ≤ 4611686018427387904) :
    Calls Try.prog 22 #[.int .i64 x, .int .i64 n] w fun e w' => e = .returned (.int .i64 ((x + 2 ^ (n.toNat - 1)) / 2 ^ n.toNat)) ∧ w = w' := by
  obtain ⟨hp, hq⟩ := pow_bd (show n.toNat - 1 ≤ 39 by omega)
  simp only [Int.reducePow] at hq
  go_enter Try.func22, Try.ntmps22
  go_wp2
  go_ret
  exact ⟨rfl, rfl⟩

/-- A number by a power of two, to the nearest. -/
def shiftS (x n : Int) : Int :=
  if x < -1099511627776 ∨ 1099511627776 < x ∨ n < -20 ∨ 40 < n then 0
  else if 0 < n then (x + 2 ^ (n.toNat - 1)) / 2 ^ n.toNat else x * 2 ^ (-n).toNat

theorem shift_out (x n : Int) (w : World) (h : x < -1099511627776 ∨ 1099511627776 < x ∨ n < -20 ∨ 40 < n) :
    Calls Try.prog 14 #[.int .i64 x, .int .i64 n] w fun e w' => e = .returned (.int .i64 0) ∧ w = w' := by
  by_cases hx : x < -1099511627776 ∨ 1099511627776 < x
  · clear h
    go_enter Try.func14, Try.ntmps14
    go_wp2_with (first
      | (go_at_call 21; refine (within_no _ _ _ (by omega) (by omega) (by omega)).mono ?_; rintro e w' ⟨rfl, rfl⟩))
    go_ret
    exact ⟨rfl, rfl⟩
  · have hx1 : -1099511627776 ≤ x := by omega
    have hx2 : x ≤ 1099511627776 := by omega
    have hn : n < -20 ∨ 40 < n := by omega
    clear h hx
    rcases hn with hn | hn
    · go_enter Try.func14, Try.ntmps14
      go_wp2_with (first
        | (go_at_call 21; refine (within_yes _ _ _ (by omega) (by omega) (by omega) (by omega)).mono ?_; rintro e w' ⟨rfl, rfl⟩))
      go_ret
      exact ⟨rfl, rfl⟩
    · go_enter Try.func14, Try.ntmps14
      go_wp2_with (first
        | (go_at_call 21; refine (within_yes _ _ _ (by omega) (by omega) (by omega) (by omega)).mono ?_; rintro e w' ⟨rfl, rfl⟩))
      go_ret
      exact ⟨rfl, rfl⟩

theorem shift_down (x n : Int) (w : World) (h1 : -1099511627776 ≤ x) (h2 : x ≤ 1099511627776) (h3 : 1 ≤ n) (h4 : n ≤ 40) :
    Calls Try.prog 14 #[.int .i64 x, .int .i64 n] w fun e w' => e = .returned (.int .i64 ((x + 2 ^ (n.toNat - 1)) / 2 ^ n.toNat)) ∧ w = w' := by
  go_enter Try.func14, Try.ntmps14
  go_wp2_with (first
    | (go_at_call 21; refine (within_yes _ _ _ (by omega) (by omega) (by omega) (by omega)).mono ?_; rintro e w' ⟨rfl, rfl⟩)
    | (go_at_call 22; refine (half_any _ _ _ (by omega) (by omega) (by omega) (by omega)).mono ?_; rintro e w' ⟨rfl, rfl⟩))
  go_ret
  exact ⟨rfl, rfl⟩

theorem shift_up (x n : Int) (w : World) (h1 : -1099511627776 ≤ x) (h2 : x ≤ 1099511627776) (h3 : -20 ≤ n) (h4 : n ≤ 0) :
    Calls Try.prog 14 #[.int .i64 x, .int .i64 n] w fun e w' => e = .returned (.int .i64 (x * 2 ^ (-n).toNat)) ∧ w = w' := by
  obtain ⟨hp, hq⟩ := pow_bd (show (-n).toNat ≤ 20 by omega)
  obtain ⟨p1, p2⟩ := mul_bd x (2 ^ (-n).toNat) 1099511627776 (2 ^ 20) h1 h2 (by omega) hq
  simp only [Int.reducePow, Int.reduceMul, Int.reduceNeg] at hq p1 p2
  go_enter Try.func14, Try.ntmps14
  go_wp2_with (first
    | (go_at_call 21; refine (within_yes _ _ _ (by omega) (by omega) (by omega) (by omega)).mono ?_; rintro e w' ⟨rfl, rfl⟩))
  go_ret
  exact ⟨rfl, rfl⟩

theorem shift_any (x n : Int) (w : World) :
    Calls Try.prog 14 #[.int .i64 x, .int .i64 n] w fun e w' => e = .returned (.int .i64 (shiftS x n)) ∧ w = w' := by
  unfold shiftS
  by_cases h : x < -1099511627776 ∨ 1099511627776 < x ∨ n < -20 ∨ 40 < n
  · rw [if_pos h]; exact shift_out x n w h
  · rw [if_neg h]
    by_cases h0 : 0 < n
    · rw [if_pos h0]; exact shift_down x n w (by omega) (by omega) (by omega) (by omega)
    · rw [if_neg h0]; exact shift_up x n w (by omega) (by omega) (by omega) (by omega)

end Go.Proofs.Ytlghgfalkpgghaa.Fix
