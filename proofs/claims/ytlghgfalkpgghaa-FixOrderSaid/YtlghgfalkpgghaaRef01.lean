/- Contracts of the document's answers of layer 1 (package spoolref01): Down, Pow, Mul, Cut, Length, Shift. -/
import Derived.Test.YtlghgfalkpgghaaFixB
namespace Go.Proofs.Ytlghgfalkpgghaa.Ref01
open Go.RowKit Go.Proofs.Ytlghgfalkpgghaa.Fix
set_option linter.unusedVariables false

theorem pow_any (n : Int) (w : World) (h1 : 0 ≤ n) (h2 : n ≤ 62) :
    Calls Try.prog 10 #[.int .i64 n] w fun e w' => e = .returned (.int .i64 (2 ^ n.toNat)) ∧ w = w' := by
  go_enter Try.func10, Try.ntmps10
  go_wp2
  go_loop [3, 4] (fun p i => ∃ k : Nat, (k : Int) ≤ n ∧ i = .int .i64 k ∧ p = .int .i64 (2 ^ k)) (fun _ i => n.toNat - (intOf i).toNat)
  case atStart => exact ⟨0, by omega, rfl, rfl⟩
  case round =>
    obtain ⟨k, hk, rfl, rfl⟩ := hrel
    by_cases hlt : (k : Int) < n
    · obtain ⟨hp, hq⟩ := pow_bd (show k ≤ 61 by omega)
      simp only [Int.reducePow] at hq
      go_wp2
      go_round
      case rel => exact ⟨k + 1, by omega, by go_num, by rw [Int.pow_succ, Int.mul_comm]⟩
      case measure => simp [intOf]; omega
    · go_wp2
      go_ret
      exact ⟨ret_int (by rw [show n.toNat = k by omega]), rfl⟩

theorem pow_as (n p : Int) (w : World) (h1 : 0 ≤ n) (h2 : n ≤ 62) (h : 2 ^ n.toNat = p) :
    Calls Try.prog 10 #[.int .i64 n] w fun e w' => e = .returned (.int .i64 p) ∧ w = w' := by
  subst h; exact pow_any n w h1 h2

theorem tmod_bd (a b : Int) (h : 0 < b) : -b < a.tmod b ∧ a.tmod b < b := by
  have h1 := Int.tmod_lt_of_pos a h
  have h2 := Int.tmod_lt_of_pos (-a) h
  rw [Int.neg_tmod] at h2
  omega
theorem down_neg (x b : Int) (hb : 1 ≤ b) (h : x.tmod b < 0) : x / b = x.tdiv b - 1 := by
  have h1 := Int.tmod_add_mul_tdiv x b
  have h2 := tmod_bd x b (by omega)
  have h3 : x = (x.tdiv b - 1) * b + (x.tmod b + b) := by rw [Int.sub_mul, Int.mul_comm _ b]; omega
  rw [show x / b = ((x.tdiv b - 1) * b + (x.tmod b + b)) / b by rw [← h3], Int.add_comm, Int.add_mul_ediv_right _ _ (by omega), Int.ediv_eq_zero_of_lt (by omega) (by omega)]; omega
theorem down_pos (x b : Int) (hb : 1 ≤ b) (h : 0 ≤ x.tmod b) : x / b = x.tdiv b := by
  have h1 := Int.tmod_add_mul_tdiv x b
  have h2 := tmod_bd x b (by omega)
  have h3 : x = x.tdiv b * b + x.tmod b := by rw [Int.mul_comm]; omega
  rw [show x / b = (x.tdiv b * b + x.tmod b) / b by rw [← h3], Int.add_comm, Int.add_mul_ediv_right _ _ (by omega), Int.ediv_eq_zero_of_lt (by omega) (by omega)]; omega

theorem down_any (x b : Int) (w : World) (h1 : -9223372036854775807 ≤ x) (h2 : x ≤ 9223372036854775807) (hb : 1 ≤ b) (hb2 : b ≤ 9223372036854775807) :
    Calls Try.prog 23 #[.int .i64 x, .int .i64 b] w fun e w' => e = .returned (.int .i64 (x / b)) ∧ w = w' := by
  have hq := IntWalk.i64_quo' x b ⟨by omega, by omega, hb⟩
  have HQ := Lib.hid hq
  have hb0 : ¬ b = 0 := by omega
  by_cases hm : x.tmod b < 0
  · have HD := Lib.hid (down_neg x b hb hm)
    have hl : -9223372036854775807 ≤ x.tdiv b ∧ x.tdiv b ≤ 9223372036854775807 := by
      have e := Int.natAbs_tdiv x b
      have : x.natAbs.div b.natAbs ≤ x.natAbs := Nat.div_le_self x.natAbs b.natAbs
      omega
    obtain ⟨l1, l2⟩ := hl
    go_enter Try.func23, Try.ntmps23
    go_wp2
    go_ret
    exact ⟨ret_int (by rw [HD.out]), rfl⟩
  · have HD := Lib.hid (down_pos x b hb (by omega))
    go_enter Try.func23, Try.ntmps23
    go_wp2
    go_ret
    exact ⟨ret_int (by rw [HD.out]), rfl⟩

theorem mul_any (a b : Int) (w : World) (h1 : -2147483648 ≤ a) (h2 : a ≤ 2147483648) (h3 : -2147483648 ≤ b) (h4 : b ≤ 2147483648) :
    Calls Try.prog 16 #[.int .i64 a, .int .i64 b] w fun e w' => e = .returned (.int .i64 (mulS a b)) ∧ w = w' := by
  obtain ⟨p1, p2⟩ := mul_bd a b 2147483648 2147483648 h1 h2 h3 h4
  simp only [Int.reduceMul, Int.reduceNeg] at p1 p2
  by_cases hr : 16384 ≤ a * b - a * b / 32768 * 32768
  · go_enter Try.func16, Try.ntmps16
    go_wp2_with (go_at_call 23; refine (down_any _ _ _ (by omega) (by omega) (by omega) (by omega)).mono ?_; rintro e w' ⟨rfl, rfl⟩)
    go_ret
    exact ⟨ret_int (by unfold mulS; omega), rfl⟩
  · go_enter Try.func16, Try.ntmps16
    go_wp2_with (go_at_call 23; refine (down_any _ _ _ (by omega) (by omega) (by omega) (by omega)).mono ?_; rintro e w' ⟨rfl, rfl⟩)
    go_ret
    exact ⟨ret_int (by unfold mulS; omega), rfl⟩

theorem cut_any (x n : Int) (w : World) (h1 : 1 ≤ n) (h2 : n ≤ 62) :
    Calls Try.prog 17 #[.int .i64 x, .int .i64 n] w fun e w' => e = .returned (.int .i64 (cutS x n)) ∧ w = w' := by
  obtain ⟨hp1, hp2⟩ := pow_bd (show n.toNat - 1 ≤ 61 by omega)
  simp only [Int.reducePow] at hp2
  obtain ⟨p, hp⟩ : ∃ p : Int, 2 ^ (n.toNat - 1) = p := ⟨_, rfl⟩
  have hs : cutS x n = max (-p) (min x (p - 1)) := by unfold cutS; rw [if_neg (by omega), hp]
  have HP := Lib.hid (show (2 : Int) ^ (n - 1).toNat = p by rw [show (n - 1).toNat = n.toNat - 1 by omega]; exact hp)
  rw [hp] at hp1 hp2
  have HS := Lib.hid hs
  clear hs hp
  by_cases c1 : x < -p
  · go_enter Try.func17, Try.ntmps17
    go_wp2_with (go_at_call 10; (with_reducible refine (pow_as _ p _ (by omega) (by omega) HP.out).mono ?_); rintro e w' ⟨rfl, rfl⟩)
    go_ret
    exact ⟨ret_int (by rw [HS.out]; omega), rfl⟩
  · by_cases c2 : p - 1 < x
    · go_enter Try.func17, Try.ntmps17
      go_wp2_with (go_at_call 10; (with_reducible refine (pow_as _ p _ (by omega) (by omega) HP.out).mono ?_); rintro e w' ⟨rfl, rfl⟩)
      go_ret
      exact ⟨ret_int (by rw [HS.out]; omega), rfl⟩
    · go_enter Try.func17, Try.ntmps17
      go_wp2_with (go_at_call 10; (with_reducible refine (pow_as _ p _ (by omega) (by omega) HP.out).mono ?_); rintro e w' ⟨rfl, rfl⟩)
      go_ret
      exact ⟨ret_int (by rw [HS.out]; omega), rfl⟩

theorem shift_any (x n : Int) (w : World) (h1 : -1099511627776 ≤ x) (h2 : x ≤ 1099511627776) (h3 : 1 ≤ n) (h4 : n ≤ 40) :
    Calls Try.prog 19 #[.int .i64 x, .int .i64 n] w fun e w' => e = .returned (.int .i64 (shiftS x n)) ∧ w = w' := by
  obtain ⟨hp1, hp2⟩ := pow_bd (show n.toNat - 1 ≤ 39 by omega)
  simp only [Int.reducePow] at hp2
  obtain ⟨p, hp⟩ : ∃ p : Int, 2 ^ (n.toNat - 1) = p := ⟨_, rfl⟩
  have hs : shiftS x n = (x + p) / (2 * p) := by
    unfold shiftS
    rw [if_neg (by omega), if_pos (by omega), hp, show n.toNat = n.toNat - 1 + 1 by omega, Int.pow_succ, hp, Int.mul_comm p 2]
  have HP := Lib.hid (show (2 : Int) ^ (n - 1).toNat = p by rw [show (n - 1).toNat = n.toNat - 1 by omega]; exact hp)
  have HQ := Lib.hid (show (2 : Int) ^ n.toNat = 2 * p by rw [show n.toNat = n.toNat - 1 + 1 by omega, Int.pow_succ, hp, Int.mul_comm])
  rw [hp] at hp1 hp2
  have HS := Lib.hid hs
  clear hs hp
  go_enter Try.func19, Try.ntmps19
  go_wp2_with (first
    | (go_at_call 10; (with_reducible refine (pow_as _ p _ (by omega) (by omega) HP.out).mono ?_); rintro e w' ⟨rfl, rfl⟩)
    | (go_at_call 10; (with_reducible refine (pow_as _ (2 * p) _ (by omega) (by omega) HQ.out).mono ?_); rintro e w' ⟨rfl, rfl⟩)
    | (go_at_call 23; refine (down_any _ _ _ (by omega) (by omega) (by omega) (by omega)).mono ?_; rintro e w' ⟨rfl, rfl⟩))
  go_ret
  exact ⟨ret_int (by rw [HS.out]), rfl⟩

theorem length_any (x : Int) (w : World) (h1 : 0 ≤ x) (h2 : x ≤ 9223372036854775807) :
    Calls Try.prog 18 #[.int .i64 x] w fun e w' => e = .returned (.int .i64 (Lib.bitLen x.natAbs)) ∧ w = w' := by
  have hl := Lib.bitLen_le x.natAbs 64 (by omega) (by omega)
  go_enter Try.func18, Try.ntmps18
  go_wp2
  go_loop [0, 3] (fun y n => ∃ (m k : Nat), y = .int .i64 (m : Int) ∧ n = .int .i64 (k : Int) ∧ m ≤ x.natAbs ∧ Hid (k + Lib.bitLen m = Lib.bitLen x.natAbs)) (fun y _ => (intOf y).toNat)
  case atStart => exact ⟨x.natAbs, 0, by rw [show (x.natAbs : Int) = x by omega], rfl, by omega, Lib.hid (by omega)⟩
  case round =>
    obtain ⟨m, k, rfl, rfl, hm, HK⟩ := hrel
    by_cases h0 : 0 < m
    · have hh := Lib.bitLen_half m (by omega) (by omega)
      have hk1 : k ≤ 63 := by have := HK.out; omega
      have HK2 := Lib.hid (show k + 1 + Lib.bitLen (m / 2) = Lib.bitLen x.natAbs by have := HK.out; omega)
      clear hh HK
      go_wp2
      go_round
      case rel => exact ⟨m / 2, k + 1, by go_num, by go_num, by omega, HK2⟩
      case measure => simp [intOf]; omega
    · obtain rfl : m = 0 := by omega
      have hz : Lib.bitLen 0 = 0 := by decide
      have HE := Lib.hid (show k = Lib.bitLen x.natAbs by have := HK.out; omega)
      clear hz HK
      go_wp2
      go_ret
      exact ⟨ret_int (by rw [← HE.out]), rfl⟩

end Go.Proofs.Ytlghgfalkpgghaa.Ref01
