/- AngA beside Row: within, half, Shift, cosines. -/
import Derived.Test.YtfpmajlgbipbmaaRow
import Derived.Test.YtfpmajlgbipbmaaAngMath
namespace Go.Proofs.Ytfpmajlgbipbmaa.Ang
open Go.RowKit Go.Proofs.Ytfpmajlgbipbmaa.Row
set_option linter.unusedVariables false

theorem within_yes (x b : Int) (w : World) (hb0 : 0 ≤ b) (hb1 : b ≤ 4611686018427387904) (h1 : -b ≤ x) (h2 : x ≤ b) :
    Calls Try.prog 47 #[.int .i64 x, .int .i64 b] w fun e w' => e = .returned (.bool true) ∧ w = w' := by
  go_enter Try.func47, Try.ntmps47
  go_wp2
  go_ret
  exact ⟨rfl, rfl⟩

theorem half_15 (x : Int) (w : World) (h1 : -9000000000000000000 ≤ x) (h2 : x ≤ 9000000000000000000) :
    Calls Try.prog 48 #[.int .i64 x, .int .i64 15] w fun e w' => e = .returned (.int .i64 ((x + 16384) / 32768)) ∧ w = w' := by
  go_enter Try.func48, Try.ntmps48
  go_wp2
  go_ret
  exact ⟨rfl, rfl⟩

theorem shift_15 (x : Int) (w : World) (h1 : -1099511627776 ≤ x) (h2 : x ≤ 1099511627776) :
    Calls Try.prog 37 #[.int .i64 x, .int .i64 15] w fun e w' => e = .returned (.int .i64 (near x)) ∧ w = w' := by
  go_enter Try.func37, Try.ntmps37
  go_wp2_with (first
    | (go_at_call 47; refine (within_yes _ _ _ (by omega) (by omega) (by omega) (by omega)).mono ?_; rintro e w' ⟨rfl, rfl⟩)
    | (go_at_call 48; refine (half_15 _ _ (by omega) (by omega)).mono ?_; rintro e w' ⟨rfl, rfl⟩))
  go_ret
  exact ⟨rfl, rfl⟩

theorem fineAngle_any (u : Int) (w : World) (h0 : 0 ≤ u) (h1 : u ≤ 16) :
    Calls Try.prog 58 #[.int .i64 u] w fun e w' => e = .returned (.tuple #[.int .i64 (xS u), .int .i64 (yS u)]) ∧ w = w' := by
  obtain ⟨⟨x0, x1⟩, _⟩ := fineB u h0 h1
  obtain ⟨p0, p1⟩ := mulB _ _ x0 x1 x0 x1
  unfold yS
  unfold xS at *
  go_enter Try.func58, Try.ntmps58
  go_wp2
  go_ret2
  exact ⟨rfl, rfl⟩

theorem fineCos_any (u : Int) (w : World) (h0 : 0 ≤ u) (h1 : u ≤ 16) :
    Calls Try.prog 55 #[.int .i64 u] w fun e w' => e = .returned (.int .i64 (fcS u)) ∧ w = w' := by
  obtain ⟨⟨x0, x1⟩, ⟨y0, y1⟩, ⟨q0, q1⟩, ⟨c0, c1⟩, ⟨s0, s1⟩⟩ := fineB u h0 h1
  obtain ⟨p0, p1⟩ := mulB _ _ y0 y1 y0 y1
  obtain ⟨p2, p3⟩ := mulB _ _ q0 q1 y0 y1
  obtain ⟨p4, p5⟩ := mulB _ _ q0 q1 q0 q1
  have HC := Lib.hid (show fcS u = _ from rfl)
  unfold qS at *
  clear c0 c1 s0 s1
  go_enter Try.func55, Try.ntmps55
  go_wp2_with (go_at_call 58; refine (fineAngle_any u _ h0 h1).mono ?_; rintro e w' ⟨rfl, rfl⟩)
  go_ret
  exact ⟨rfl, rfl⟩

theorem fineSin_any (u : Int) (w : World) (h0 : 0 ≤ u) (h1 : u ≤ 16) :
    Calls Try.prog 56 #[.int .i64 u] w fun e w' => e = .returned (.int .i64 (fsS u)) ∧ w = w' := by
  obtain ⟨⟨x0, x1⟩, ⟨y0, y1⟩, ⟨q0, q1⟩, ⟨c0, c1⟩, ⟨s0, s1⟩⟩ := fineB u h0 h1
  obtain ⟨p0, p1⟩ := mulB _ _ y0 y1 y0 y1
  obtain ⟨p2, p3⟩ := mulB _ _ q0 q1 y0 y1
  obtain ⟨p4, p5⟩ := mulB _ _ x0 x1 y0 y1
  obtain ⟨p6, p7⟩ := mulB _ _ x0 x1 q0 q1
  obtain ⟨p8, p9⟩ := mulB (xS u) (qS u * yS u / 1073741824) x0 x1 (by omega) (by omega)
  unfold qS at *
  clear c0 c1 s0 s1
  go_enter Try.func56, Try.ntmps56
  go_wp2_with (go_at_call 58; refine (fineAngle_any u _ h0 h1).mono ?_; rintro e w' ⟨rfl, rfl⟩)
  go_ret
  exact ⟨rfl, rfl⟩

theorem quarter_any (u : Int) (w : World) (h0 : 0 ≤ u) (h1 : u ≤ 32) :
    Calls Try.prog 53 #[.int .i64 u] w fun e w' => e = .returned (.int .i64 (quS u)) ∧ w = w' := by
  by_cases h : u ≤ 16
  · obtain ⟨_, _, _, ⟨c0, c1⟩, _⟩ := fineB u h0 h
    rw [show quS u = near (fcS u) by unfold quS; rw [if_pos h]]
    go_enter Try.func53, Try.ntmps53
    go_wp2_with (first
      | (go_at_call 55; refine (fineCos_any _ _ (by omega) (by omega)).mono ?_; rintro e w' ⟨rfl, rfl⟩)
      | (go_at_call 37; refine (shift_15 _ _ (by omega) (by omega)).mono ?_; rintro e w' ⟨rfl, rfl⟩))
    go_ret
    exact ⟨rfl, rfl⟩
  · obtain ⟨_, _, _, _, ⟨c0, c1⟩⟩ := fineB (32 - u) (by omega) (by omega)
    rw [show quS u = near (fsS (32 - u)) by unfold quS; rw [if_neg h]]
    go_enter Try.func53, Try.ntmps53
    go_wp2_with (first
      | (go_at_call 56; refine (fineSin_any _ _ (by omega) (by omega)).mono ?_; rintro e w' ⟨rfl, rfl⟩)
      | (go_at_call 37; refine (shift_15 _ _ (by omega) (by omega)).mono ?_; rintro e w' ⟨rfl, rfl⟩))
    go_ret
    exact ⟨rfl, rfl⟩

theorem and7 (n : Int) : bits .and .i64 n 127 = n % 128 := by
  have e : ((BitVec.ofInt 64 n) &&& (BitVec.ofInt 64 127)).toNat = (n % 128).toNat := by
    rw [BitVec.toNat_and, BitVec.toNat_ofInt, BitVec.toNat_ofInt]
    have h2 : ((127 : Int) % ((2 ^ 64 : Nat) : Int)).toNat = 2 ^ 7 - 1 := by decide +kernel
    rw [h2, Nat.and_two_pow_sub_one_eq_mod]
    have h3 : ((2 ^ 64 : Nat) : Int) = 18446744073709551616 := by decide +kernel
    rw [h3]
    omega
  show IntKind.i64.wrap ((((BitVec.ofInt 64 n) &&& (BitVec.ofInt 64 127)).toNat : Nat) : Int) = _
  rw [e, IntKind.wrap_i64]
  omega

theorem qu_bd (u : Int) (h0 : 0 ≤ u) (h1 : u ≤ 32) : -32768 ≤ quS u ∧ quS u ≤ 32768 := by
  have h : ∀ k : Fin 33, -32768 ≤ quS k.val ∧ quS k.val ≤ 32768 := by decide +kernel
  have := h ⟨u.toNat, by omega⟩
  simpa [show (u.toNat : Int) = u by omega] using this

theorem cos_any (u : Int) (w : World) :
    Calls Try.prog 46 #[.int .i64 u] w fun e w' => e = .returned (.int .i64 (cosS u)) ∧ w = w' := by
  have HA := and7 u
  obtain ⟨v, hv⟩ : ∃ v, u % 128 = v := ⟨_, rfl⟩
  have v0 : 0 ≤ v := by omega
  have v1 : v < 128 := by omega
  rw [hv] at HA
  have hc : cosS u = c0 v := by unfold cosS; rw [hv]
  rw [hc]
  clear hc hv
  by_cases h1 : 64 < v
  · by_cases h2 : 32 < 128 - v
    · obtain ⟨b1, b2⟩ := qu_bd (64 - (128 - v)) (by omega) (by omega)
      have HC := Lib.hid (show c0 v = -quS (64 - (128 - v)) by unfold c0; rw [if_pos h1, if_pos h2])
      go_enter Try.func46, Try.ntmps46
      go_wp2_with (go_at_call 53; refine (quarter_any _ _ (by omega) (by omega)).mono ?_; rintro e w' ⟨rfl, rfl⟩)
      go_ret
      exact ⟨ret_int HC.out.symm, rfl⟩
    · have HC := Lib.hid (show c0 v = quS (128 - v) by unfold c0; rw [if_pos h1, if_neg h2])
      go_enter Try.func46, Try.ntmps46
      go_wp2_with (go_at_call 53; refine (quarter_any _ _ (by omega) (by omega)).mono ?_; rintro e w' ⟨rfl, rfl⟩)
      go_ret
      exact ⟨ret_int HC.out.symm, rfl⟩
  · by_cases h2 : 32 < v
    · obtain ⟨b1, b2⟩ := qu_bd (64 - v) (by omega) (by omega)
      have HC := Lib.hid (show c0 v = -quS (64 - v) by unfold c0; rw [if_neg h1, if_pos h2])
      go_enter Try.func46, Try.ntmps46
      go_wp2_with (go_at_call 53; refine (quarter_any _ _ (by omega) (by omega)).mono ?_; rintro e w' ⟨rfl, rfl⟩)
      go_ret
      exact ⟨ret_int HC.out.symm, rfl⟩
    · have HC := Lib.hid (show c0 v = quS v by unfold c0; rw [if_neg h1, if_neg h2])
      go_enter Try.func46, Try.ntmps46
      go_wp2_with (go_at_call 53; refine (quarter_any _ _ (by omega) (by omega)).mono ?_; rintro e w' ⟨rfl, rfl⟩)
      go_ret
      exact ⟨ret_int HC.out.symm, rfl⟩

theorem tmod_bd (a b : Int) (h : 0 < b) : -b < a.tmod b ∧ a.tmod b < b := by
  have h1 := Int.tmod_lt_of_pos a h
  have h2 := Int.tmod_lt_of_pos (-a) h
  rw [Int.neg_tmod] at h2
  omega

theorem tmod128 (u : Int) : (u.tmod 128 - 32) % 128 = (u - 32) % 128 := by
  have := Int.tmod_add_mul_tdiv u 128
  omega

theorem sin_any (u : Int) (w : World) :
    Calls Try.prog 45 #[.int .i64 u] w fun e w' => e = .returned (.int .i64 (sinS u)) ∧ w = w' := by
  obtain ⟨b1, b2⟩ := tmod_bd u 128 (by omega)
  have HS := Lib.hid (show cosS (u.tmod 128 - 32) = sinS u from cosS_eq (tmod128 u))
  go_enter Try.func45, Try.ntmps45
  go_wp2_with (go_at_call 46; refine (cos_any _ _).mono ?_; rintro e w' ⟨rfl, rfl⟩)
  go_ret
  exact ⟨ret_int HS.out, rfl⟩

theorem cos_as (u c : Int) (w : World) (h : cosS u = c) :
    Calls Try.prog 46 #[.int .i64 u] w fun e w' => e = .returned (.int .i64 c) ∧ w = w' := by
  subst h; exact cos_any u w

theorem sin_as (u c : Int) (w : World) (h : sinS u = c) :
    Calls Try.prog 45 #[.int .i64 u] w fun e w' => e = .returned (.int .i64 c) ∧ w = w' := by
  subst h; exact sin_any u w
end Go.Proofs.Ytfpmajlgbipbmaa.Ang
