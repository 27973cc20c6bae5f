/- The statements' walks of layer 1, first part: awake, Pow, FixMuls, FixCuts, FixShifts. -/
import Derived.Test.YtlghgfalkpgghaaFixA
namespace Go.Proofs.Ytlghgfalkpgghaa.Law01
open Go.RowKit Go.Proofs.Ytlghgfalkpgghaa.Fix

theorem awake_yes (w : World) :
    Calls Try.prog 11 #[] w fun e w' => e = .returned (.bool true) ∧ w = w' := by
  have h1 : mulS 3 16384 = 2 := by decide
  have h2 : cutS 40000 16 = 32767 := by decide
  go_enter Try.func11, Try.ntmps11
  go_wp2_with (first
    | (go_at_call 15; refine (mul_in _ _ _ (by omega) (by omega) (by omega) (by omega)).mono ?_; rintro e w' ⟨rfl, rfl⟩)
    | (go_at_call 9; refine (cut_any _ _ _).mono ?_; rintro e w' ⟨rfl, rfl⟩))
  go_ret
  exact ⟨rfl, rfl⟩

theorem pow_any (n : Int) (w : World) (h1 : 0 ≤ n) (h2 : n ≤ 62) :
    Calls Try.prog 10 #[.int .i64 n] w fun e w' => e = .returned (.int .i64 (2 ^ n.toNat)) ∧ w = w' := by
  go_enter Try.func10, Try.ntmps10
  go_wp2
  go_loop [3, 4] (fun p i => ∃ k : Nat, (k : Int) ≤ n ∧ i = .int .i64 k ∧ p = .int .i64 (2 ^ k)) (fun _ i => n.toNat - (intOf i).toNat)
  case atStart => exact ⟨0, by omega, rfl, rfl⟩
  case round =>
    obtain ⟨k, hk, rfl, rfl⟩ := hrel
    by_cases hlt : (k : Int) < n
    · obtain ⟨hp, hq⟩ := pow_bd (show k ≤ 61 by omega)
      simp only [Int.reducePow] at hq
      go_wp2
      go_round
      case rel => exact ⟨k + 1, by omega, by go_num, by rw [Int.pow_succ, Int.mul_comm]⟩
      case measure => simp [intOf]; omega
    · go_wp2
      go_ret
      exact ⟨ret_int (by rw [show n.toNat = k by omega]), rfl⟩

theorem tmod_bd (a b : Int) (h : 0 < b) : -b < a.tmod b ∧ a.tmod b < b := by
  have h1 := Int.tmod_lt_of_pos a h
  have h2 := Int.tmod_lt_of_pos (-a) h
  rw [Int.neg_tmod] at h2
  omega

theorem fixMuls_walk (a0 : Int) (a1 : Int) (_w0 : (Lit.int .i64 a0).wf = true) (_w1 : (Lit.int .i64 a1).wf = true) (w : World) :
    Calls Try.prog 7 #[.int .i64 a0, .int .i64 a1] w fun e w' => e = .returned (.bool true) ∧ Grown w w' := by
  have t0 := tmod_bd a0 2147483648 (by omega)
  have t1 := tmod_bd a1 2147483648 (by omega)
  have hx1 : -2147483648 ≤ a0.tmod 2147483648 := by omega
  have hx2 : a0.tmod 2147483648 ≤ 2147483648 := by omega
  have hy1 : -2147483648 ≤ a1.tmod 2147483648 := by omega
  have hy2 : a1.tmod 2147483648 ≤ 2147483648 := by omega
  clear t0 t1
  have e1 : (mulS (a0.tmod 2147483648) (a1.tmod 2147483648) == mulS (a1.tmod 2147483648) (a0.tmod 2147483648)) = true := by
    unfold mulS; rw [Int.mul_comm]; simp
  have e2 : (mulS (a0.tmod 2147483648) 32768 == a0.tmod 2147483648) = true := by
    unfold mulS; simp; omega
  have e3 : (mulS (a0.tmod 2147483648) (-32768) == -a0.tmod 2147483648) = true := by
    unfold mulS; simp; omega
  have e4 : (mulS (a0.tmod 2147483648) 0 == 0) = true := by
    unfold mulS; simp
  have e5 : (mulS (a0.tmod 2147483648) 65536 == 2 * a0.tmod 2147483648) = true := by
    unfold mulS; simp; omega
  go_enter Try.func7, Try.ntmps7
  go_wp2_with (first
    | (go_at_call 11; refine (awake_yes _).mono ?_; rintro e w' ⟨rfl, rfl⟩)
    | (go_at_call 15; refine (mul_in _ _ _ (by omega) (by omega) (by omega) (by omega)).mono ?_; rintro e w' ⟨rfl, rfl⟩))
  go_ret
  exact ⟨rfl, Grown.refl _⟩

theorem pow_as (n p : Int) (w : World) (h1 : 0 ≤ n) (h2 : n ≤ 62) (h : 2 ^ n.toNat = p) :
    Calls Try.prog 10 #[.int .i64 n] w fun e w' => e = .returned (.int .i64 p) ∧ w = w' := by
  subst h; exact pow_any n w h1 h2
theorem cut_as (x n y : Int) (w : World) (h : cutS x n = y) :
    Calls Try.prog 9 #[.int .i64 x, .int .i64 n] w fun e w' => e = .returned (.int .i64 y) ∧ w = w' := by
  subst h; exact cut_any x n w

theorem fixCuts_walk (a0 : Int) (a1 : Int) (w0 : (Lit.int .i64 a0).wf = true) (w1 : (Lit.int .u8 a1).wf = true) (w : World) :
    Calls Try.prog 3 #[.int .i64 a0, .int .u8 a1] w fun e w' => e = .returned (.bool true) ∧ Grown w w' := by
  obtain ⟨b1, b2⟩ := bounds_i64 w0
  obtain ⟨c1, c2⟩ := bounds_u8 w1
  clear w0 w1
  obtain ⟨hp1, hp2⟩ := pow_bd (show (a1 % 62).toNat ≤ 61 by omega)
  simp only [Int.reducePow] at hp2
  obtain ⟨p, hp⟩ : ∃ p : Int, 2 ^ (a1 % 62).toNat = p := ⟨_, rfl⟩
  have hc : ∀ x, cutS x (1 + a1 % 62) = max (-p) (min x (p - 1)) := by
    intro x; unfold cutS; rw [if_neg (by omega), show (1 + a1 % 62).toNat - 1 = (a1 % 62).toNat by omega, hp]
  rw [hp] at hp1 hp2
  have HP := Lib.hid hp
  have HC := Lib.hid hc
  clear hp hc
  by_cases h1 : a0 < -p
  · have g1 : (-p == a0) = false := by simp; omega
    have g2 : ¬ -p ≤ a0 := by omega
    have HY := Lib.hid (show max (-p) (min a0 (p - 1)) = -p by omega)
    have HZ := Lib.hid (show max (-p) (min (-p) (p - 1)) = -p by omega)
    go_enter Try.func3, Try.ntmps3
    go_wp2_with (first
      | (go_at_call 11; refine (awake_yes _).mono ?_; rintro e w' ⟨rfl, rfl⟩)
      | (go_at_call 10; (with_reducible refine (pow_as _ p _ (by omega) (by omega) ((congrArg _ (by omega)).trans HP.out)).mono ?_); rintro e w' ⟨rfl, rfl⟩)
      | (go_at_call 9; (with_reducible refine (cut_as _ _ (-p) _ (by with_reducible first | exact (HC.out _).trans HY.out | exact (HC.out _).trans HZ.out)).mono ?_); rintro e w' ⟨rfl, rfl⟩))
    go_ret
    exact ⟨rfl, Grown.refl _⟩
  · by_cases h2 : p - 1 < a0
    · have g1 : (p - 1 == a0) = false := by simp; omega
      have g2 : decide (a0 ≤ p - 1) = false := by simp; omega
      have HY := Lib.hid (show max (-p) (min a0 (p - 1)) = p - 1 by omega)
      have HZ := Lib.hid (show max (-p) (min (p - 1) (p - 1)) = p - 1 by omega)
      go_enter Try.func3, Try.ntmps3
      go_wp2_with (first
        | (go_at_call 11; refine (awake_yes _).mono ?_; rintro e w' ⟨rfl, rfl⟩)
        | (go_at_call 10; (with_reducible refine (pow_as _ p _ (by omega) (by omega) ((congrArg _ (by omega)).trans HP.out)).mono ?_); rintro e w' ⟨rfl, rfl⟩)
        | (go_at_call 9; (with_reducible refine (cut_as _ _ (p - 1) _ (by with_reducible first | exact (HC.out _).trans HY.out | exact (HC.out _).trans HZ.out)).mono ?_); rintro e w' ⟨rfl, rfl⟩))
      go_ret
      exact ⟨rfl, Grown.refl _⟩
    · have HY := Lib.hid (show max (-p) (min a0 (p - 1)) = a0 by omega)
      go_enter Try.func3, Try.ntmps3
      go_wp2_with (first
        | (go_at_call 11; refine (awake_yes _).mono ?_; rintro e w' ⟨rfl, rfl⟩)
        | (go_at_call 10; (with_reducible refine (pow_as _ p _ (by omega) (by omega) ((congrArg _ (by omega)).trans HP.out)).mono ?_); rintro e w' ⟨rfl, rfl⟩)
        | (go_at_call 9; (with_reducible refine (cut_as _ _ a0 _ ((HC.out _).trans HY.out)).mono ?_); rintro e w' ⟨rfl, rfl⟩))
      go_ret
      exact ⟨rfl, Grown.refl _⟩

theorem shift_as (x n y : Int) (w : World) (h : shiftS x n = y) :
    Calls Try.prog 14 #[.int .i64 x, .int .i64 n] w fun e w' => e = .returned (.int .i64 y) ∧ w = w' := by
  subst h; exact shift_any x n w

theorem shift_pos (x n p : Int) (h1 : -1099511627776 ≤ x) (h2 : x ≤ 1099511627776) (h3 : 1 ≤ n) (h4 : n ≤ 40) (hp : 2 ^ (n.toNat - 1) = p) : shiftS x n = (x + p) / (2 * p) := by
  unfold shiftS
  rw [if_neg (by omega), if_pos (by omega), hp, show n.toNat = n.toNat - 1 + 1 by omega, Int.pow_succ, hp, Int.mul_comm p 2]

theorem div_bd (x p : Int) (hp : 1 ≤ p) : 2 * ((x + p) / (2 * p) * (2 * p) - x) ≤ 2 * p ∧ 2 * (x - (x + p) / (2 * p) * (2 * p)) < 2 * p := by
  have h1 := Int.emod_add_mul_ediv (x + p) (2 * p)
  have h2 := Int.emod_nonneg (x + p) (show 2 * p ≠ 0 by omega)
  have h3 := Int.emod_lt_of_pos (x + p) (show 0 < 2 * p by omega)
  rw [Int.mul_comm (2 * p)] at h1
  omega

theorem div_same (x p : Int) (hp : 1 ≤ p) : (x * (2 * p) + p) / (2 * p) = x := by
  rw [Int.add_comm, Int.add_mul_ediv_right _ _ (by omega), Int.ediv_eq_zero_of_lt (by omega) (by omega)]; omega

theorem fixShifts_walk (a0 : Int) (a1 : Int) (_w0 : (Lit.int .i64 a0).wf = true) (w1 : (Lit.int .u8 a1).wf = true) (w : World) :
    Calls Try.prog 5 #[.int .i64 a0, .int .u8 a1] w fun e w' => e = .returned (.bool true) ∧ Grown w w' := by
  obtain ⟨c1, c2⟩ := bounds_u8 w1
  obtain ⟨t1, t2⟩ := tmod_bd a0 1048576 (by omega)
  clear w1
  have HX := Lib.hid (rfl : a0.tmod 1048576 = a0.tmod 1048576)
  by_cases hk : a1 % 21 = 0
  · have k1 : (a1 % 21 == 0) = true := by simp [hk]
    have HP := Lib.hid (show (2 : Int) ^ (a1 % 21).toNat = 1 by rw [hk]; rfl)
    have HS := Lib.hid (show shiftS (a0.tmod 1048576) (a1 % 21) = a0.tmod 1048576 by rw [hk]; unfold shiftS; rw [if_neg (by omega), if_neg (by omega)]; simp)
    have HT := Lib.hid (show shiftS (a0.tmod 1048576) (-(a1 % 21)) = a0.tmod 1048576 by rw [hk]; unfold shiftS; rw [if_neg (by omega), if_neg (by omega)]; simp)
    clear hk
    go_enter Try.func5, Try.ntmps5
    go_wp2_with (first
      | (go_at_call 11; refine (awake_yes _).mono ?_; rintro e w' ⟨rfl, rfl⟩)
      | (go_at_call 10; (with_reducible refine (pow_as _ 1 _ (by omega) (by omega) HP.out).mono ?_); rintro e w' ⟨rfl, rfl⟩)
      | (go_at_call 14; (with_reducible refine (shift_as _ _ (a0.tmod 1048576) _ (by with_reducible first | exact HS.out | exact HT.out)).mono ?_); rintro e w' ⟨rfl, rfl⟩))
    go_ret
    exact ⟨rfl, Grown.refl _⟩
  · have k1 : (a1 % 21 == 0) = false := by simpa using hk
    obtain ⟨hq1, hq2⟩ := pow_bd (show (a1 % 21).toNat - 1 ≤ 19 by omega)
    simp only [Int.reducePow] at hq2
    obtain ⟨q, hq⟩ : ∃ q : Int, 2 ^ ((a1 % 21).toNat - 1) = q := ⟨_, rfl⟩
    rw [hq] at hq1 hq2
    have HP := Lib.hid (show (2 : Int) ^ (a1 % 21).toNat = 2 * q by rw [show (a1 % 21).toNat = (a1 % 21).toNat - 1 + 1 by omega, Int.pow_succ, hq, Int.mul_comm])
    obtain ⟨z1, z2⟩ := mul_bd (a0.tmod 1048576) (2 * q) 1048576 1048576 (by omega) (by omega) (by omega) (by omega)
    simp only [Int.reduceMul, Int.reduceNeg] at z1 z2
    have hT : shiftS (a0.tmod 1048576) (-(a1 % 21)) = a0.tmod 1048576 * (2 * q) := by
      unfold shiftS; rw [if_neg (by omega), if_neg (by omega), Int.neg_neg, HP.out]
    have hU : shiftS (a0.tmod 1048576 * (2 * q)) (a1 % 21) = a0.tmod 1048576 := by
      rw [shift_pos _ _ q (by omega) (by omega) (by omega) (by omega) hq]; exact div_same _ _ hq1
    obtain ⟨y, hy⟩ : ∃ y : Int, (a0.tmod 1048576 + q) / (2 * q) = y := ⟨_, rfl⟩
    have hS : shiftS (a0.tmod 1048576) (a1 % 21) = y := by
      rw [shift_pos _ _ q (by omega) (by omega) (by omega) (by omega) hq]; exact hy
    obtain ⟨y1, y2⟩ := div_bd (a0.tmod 1048576) q hq1
    rw [hy] at y1 y2
    obtain ⟨p, hp⟩ : ∃ p : Int, p = 2 * q := ⟨_, rfl⟩
    rw [← hp] at HP hT hU y1 y2
    obtain ⟨z, hz⟩ : ∃ z : Int, z = a0.tmod 1048576 * p := ⟨_, rfl⟩
    rw [← hz] at hT hU
    have HS := Lib.hid hS
    have HT := Lib.hid hT
    have HU := Lib.hid hU
    have p1 : 1 ≤ p := by omega
    have p2 : p ≤ 1048576 := by omega
    clear hS hT hU hy hz hq hp hk z1 z2
    go_enter Try.func5, Try.ntmps5
    go_wp2_with (first
      | (go_at_call 11; refine (awake_yes _).mono ?_; rintro e w' ⟨rfl, rfl⟩)
      | (go_at_call 10; (with_reducible refine (pow_as _ p _ (by omega) (by omega) HP.out).mono ?_); rintro e w' ⟨rfl, rfl⟩)
      | (go_at_call 14; (with_reducible refine (shift_as _ _ y _ HS.out).mono ?_); rintro e w' ⟨rfl, rfl⟩)
      | (go_at_call 14; (with_reducible refine (shift_as _ _ z _ HT.out).mono ?_); rintro e w' ⟨rfl, rfl⟩)
      | (go_at_call 14; (with_reducible refine (shift_as _ _ (a0.tmod 1048576) _ HU.out).mono ?_); rintro e w' ⟨rfl, rfl⟩))
    go_ret
    exact ⟨rfl, Grown.refl _⟩

end Go.Proofs.Ytlghgfalkpgghaa.Law01
