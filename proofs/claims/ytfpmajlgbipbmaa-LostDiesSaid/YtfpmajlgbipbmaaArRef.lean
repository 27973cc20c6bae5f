/- AngRef beside Row: the document's cosines. -/
import Derived.Test.YtfpmajlgbipbmaaArA
namespace Go.Proofs.Ytfpmajlgbipbmaa.Ang
open Go.RowKit Go.Proofs.Ytfpmajlgbipbmaa.Row
set_option linter.unusedVariables false

theorem down_neg (x b : Int) (hb : 1 ≤ b) (h : x.tmod b < 0) : x / b = x.tdiv b - 1 := by
  have h1 := Int.tmod_add_mul_tdiv x b
  have h2 := tmod_bd x b (by omega)
  have h3 : x = (x.tdiv b - 1) * b + (x.tmod b + b) := by rw [Int.sub_mul, Int.mul_comm _ b]; omega
  rw [show x / b = ((x.tdiv b - 1) * b + (x.tmod b + b)) / b by rw [← h3], Int.add_comm, Int.add_mul_ediv_right _ _ (by omega), Int.ediv_eq_zero_of_lt (by omega) (by omega)]; omega

theorem down_pos (x b : Int) (hb : 1 ≤ b) (h : 0 ≤ x.tmod b) : x / b = x.tdiv b := by
  have h1 := Int.tmod_add_mul_tdiv x b
  have h2 := tmod_bd x b (by omega)
  have h3 : x = x.tdiv b * b + x.tmod b := by rw [Int.mul_comm]; omega
  rw [show x / b = (x.tdiv b * b + x.tmod b) / b by rw [← h3], Int.add_comm, Int.add_mul_ediv_right _ _ (by omega), Int.ediv_eq_zero_of_lt (by omega) (by omega)]; omega

theorem down_any (x b : Int) (w : World) (h1 : -9223372036854775807 ≤ x) (h2 : x ≤ 9223372036854775807) (hb : 1 ≤ b) (hb2 : b ≤ 9223372036854775807) :
    Calls Try.prog 52 #[.int .i64 x, .int .i64 b] w fun e w' => e = .returned (.int .i64 (x / b)) ∧ w = w' := by
  have hq := IntWalk.i64_quo' x b ⟨by omega, by omega, hb⟩
  have HQ := Lib.hid hq
  have hb0 : ¬ b = 0 := by omega
  by_cases hm : x.tmod b < 0
  · have HD := Lib.hid (down_neg x b hb hm)
    have hl : -9223372036854775807 ≤ x.tdiv b ∧ x.tdiv b ≤ 9223372036854775807 := by
      have e := Int.natAbs_tdiv x b
      have : x.natAbs.div b.natAbs ≤ x.natAbs := Nat.div_le_self x.natAbs b.natAbs
      omega
    obtain ⟨l1, l2⟩ := hl
    go_enter Try.func52, Try.ntmps52
    go_wp2
    go_ret
    exact ⟨ret_int (by rw [HD.out]), rfl⟩
  · have HD := Lib.hid (down_pos x b hb (by omega))
    go_enter Try.func52, Try.ntmps52
    go_wp2
    go_ret
    exact ⟨ret_int (by rw [HD.out]), rfl⟩

theorem near_any (x : Int) (w : World) (h1 : 0 ≤ x) (h2 : x ≤ 1099511627776) :
    Calls Try.prog 57 #[.int .i64 x] w fun e w' => e = .returned (.int .i64 (near x)) ∧ w = w' := by
  go_enter Try.func57, Try.ntmps57
  go_wp2_with (go_at_call 52; refine (down_any _ _ _ (by omega) (by omega) (by omega) (by omega)).mono ?_; rintro e w' ⟨rfl, rfl⟩)
  go_ret
  exact ⟨rfl, rfl⟩

theorem both_any (u : Int) (w : World) (h0 : 0 ≤ u) (h1 : u ≤ 16) :
    Calls Try.prog 54 #[.int .i64 u] w fun e w' => e = .returned (.tuple #[.int .i64 (near (fcS u)), .int .i64 (near (fsS u))]) ∧ w = w' := by
  obtain ⟨⟨x0, x1⟩, ⟨y0, y1⟩, ⟨q0, q1⟩, ⟨c0, c1⟩, ⟨s0, s1⟩⟩ := fineB u h0 h1
  obtain ⟨p0, p1⟩ := mulB _ _ y0 y1 y0 y1
  obtain ⟨p2, p3⟩ := mulB _ _ q0 q1 y0 y1
  obtain ⟨p4, p5⟩ := mulB _ _ x0 x1 y0 y1
  obtain ⟨p6, p7⟩ := mulB _ _ x0 x1 q0 q1
  obtain ⟨p8, p9⟩ := mulB (xS u) (qS u * yS u / 1073741824) x0 x1 (by omega) (by omega)
  obtain ⟨p10, p11⟩ := mulB _ _ q0 q1 q0 q1
  obtain ⟨p12, p13⟩ := mulB _ _ x0 x1 x0 x1
  have ex : u * 105414357 / 2 = xS u := rfl
  have ey : xS u * xS u / 1073741824 = yS u := rfl
  have eq : yS u * yS u / 1073741824 = qS u := rfl
  have ec : 1073741824 - yS u / 2 + yS u * yS u / 25769803776 - qS u * yS u / 773094113280 + qS u * qS u / 43293270343680 = fcS u := rfl
  have es : xS u - xS u * yS u / 6442450944 + xS u * qS u / 128849018880 - xS u * (qS u * yS u / 1073741824) / 5411658792960 = fsS u := rfl
  go_enter Try.func54, Try.ntmps54
  go_wp2_with (first
    | (go_at_call 52; refine (down_any _ _ _ (by omega) (by omega) (by omega) (by omega)).mono ?_; rintro e w' ⟨rfl, rfl⟩)
    | (go_at_call 57; refine (near_any _ _ (by omega) (by omega)).mono ?_; rintro e w' ⟨rfl, rfl⟩))
  go_ret2
  exact ⟨rfl, rfl⟩

theorem both_as (u m : Int) (w : World) (h : u = m) (h0 : 0 ≤ m) (h1 : m ≤ 16) :
    Calls Try.prog 54 #[.int .i64 u] w fun e w' => e = .returned (.tuple #[.int .i64 (near (fcS m)), .int .i64 (near (fsS m))]) ∧ w = w' := by
  subst h; exact both_any u w h0 h1

theorem refCos_any (u : Int) (w : World) :
    Calls Try.prog 51 #[.int .i64 u] w fun e w' => e = .returned (.int .i64 (cosS u)) ∧ w = w' := by
  obtain ⟨v, hv⟩ : ∃ v, u % 128 = v := ⟨_, rfl⟩
  obtain ⟨t, ht⟩ : ∃ t, u.tmod 128 = t := ⟨_, rfl⟩
  have v0 : 0 ≤ v := by omega
  have v1 : v < 128 := by omega
  have hc : cosS u = c0 v := by unfold cosS; rw [hv]
  rw [hc]
  have hm := Int.tmod_add_mul_tdiv u 128
  obtain ⟨b1, b2⟩ := tmod_bd u 128 (by omega)
  rw [ht] at hm b1 b2
  have h : t = v ∨ t = v - 128 := by omega
  clear hc hm hv
  have g : ∀ m, 0 ≤ m → m ≤ 32 → -32768 ≤ quS m ∧ quS m ≤ 32768 := qu_bd
  rcases h with h | h
  · by_cases h1 : 64 < v
    · by_cases h2 : 32 < 128 - v
      · have HC := Lib.hid (show c0 v = -quS (64 - (128 - v)) by unfold c0; rw [if_pos h1, if_pos h2])
        obtain ⟨g1, g2⟩ := g (64 - (128 - v)) (by omega) (by omega)
        clear g
        by_cases h3 : 64 - (128 - v) ≤ 16
        · have hq := show quS (64 - (128 - v)) = near (fcS (64 - (128 - v))) by unfold quS; rw [if_pos h3]
          rw [hq] at g1 g2
          have HQ := Lib.hid hq
          clear hq
          go_enter Try.func51, Try.ntmps51
          go_wp2_with (go_at_call 54; refine (both_as _ (64 - (128 - v)) _ (by omega) (by omega) (by omega)).mono ?_; rintro e w' ⟨rfl, rfl⟩)
          go_ret
          exact ⟨ret_int (by rw [HC.out, HQ.out]), rfl⟩
        · have hq := show quS (64 - (128 - v)) = near (fsS (32 - (64 - (128 - v)))) by unfold quS; rw [if_neg h3]
          rw [hq] at g1 g2
          have HQ := Lib.hid hq
          clear hq
          go_enter Try.func51, Try.ntmps51
          go_wp2_with (go_at_call 54; refine (both_as _ (32 - (64 - (128 - v))) _ (by omega) (by omega) (by omega)).mono ?_; rintro e w' ⟨rfl, rfl⟩)
          go_ret
          exact ⟨ret_int (by rw [HC.out, HQ.out]), rfl⟩
      · have HC := Lib.hid (show c0 v = quS (128 - v) by unfold c0; rw [if_pos h1, if_neg h2])
        obtain ⟨g1, g2⟩ := g (128 - v) (by omega) (by omega)
        clear g
        by_cases h3 : 128 - v ≤ 16
        · have hq := show quS (128 - v) = near (fcS (128 - v)) by unfold quS; rw [if_pos h3]
          rw [hq] at g1 g2
          have HQ := Lib.hid hq
          clear hq
          go_enter Try.func51, Try.ntmps51
          go_wp2_with (go_at_call 54; refine (both_as _ (128 - v) _ (by omega) (by omega) (by omega)).mono ?_; rintro e w' ⟨rfl, rfl⟩)
          go_ret
          exact ⟨ret_int (by rw [HC.out, HQ.out]), rfl⟩
        · have hq := show quS (128 - v) = near (fsS (32 - (128 - v))) by unfold quS; rw [if_neg h3]
          rw [hq] at g1 g2
          have HQ := Lib.hid hq
          clear hq
          go_enter Try.func51, Try.ntmps51
          go_wp2_with (go_at_call 54; refine (both_as _ (32 - (128 - v)) _ (by omega) (by omega) (by omega)).mono ?_; rintro e w' ⟨rfl, rfl⟩)
          go_ret
          exact ⟨ret_int (by rw [HC.out, HQ.out]), rfl⟩
    · by_cases h2 : 32 < v
      · have HC := Lib.hid (show c0 v = -quS (64 - v) by unfold c0; rw [if_neg h1, if_pos h2])
        obtain ⟨g1, g2⟩ := g (64 - v) (by omega) (by omega)
        clear g
        by_cases h3 : 64 - v ≤ 16
        · have hq := show quS (64 - v) = near (fcS (64 - v)) by unfold quS; rw [if_pos h3]
          rw [hq] at g1 g2
          have HQ := Lib.hid hq
          clear hq
          go_enter Try.func51, Try.ntmps51
          go_wp2_with (go_at_call 54; refine (both_as _ (64 - v) _ (by omega) (by omega) (by omega)).mono ?_; rintro e w' ⟨rfl, rfl⟩)
          go_ret
          exact ⟨ret_int (by rw [HC.out, HQ.out]), rfl⟩
        · have hq := show quS (64 - v) = near (fsS (32 - (64 - v))) by unfold quS; rw [if_neg h3]
          rw [hq] at g1 g2
          have HQ := Lib.hid hq
          clear hq
          go_enter Try.func51, Try.ntmps51
          go_wp2_with (go_at_call 54; refine (both_as _ (32 - (64 - v)) _ (by omega) (by omega) (by omega)).mono ?_; rintro e w' ⟨rfl, rfl⟩)
          go_ret
          exact ⟨ret_int (by rw [HC.out, HQ.out]), rfl⟩
      · have HC := Lib.hid (show c0 v = quS v by unfold c0; rw [if_neg h1, if_neg h2])
        obtain ⟨g1, g2⟩ := g (v) (by omega) (by omega)
        clear g
        by_cases h3 : v ≤ 16
        · have hq := show quS (v) = near (fcS (v)) by unfold quS; rw [if_pos h3]
          rw [hq] at g1 g2
          have HQ := Lib.hid hq
          clear hq
          go_enter Try.func51, Try.ntmps51
          go_wp2_with (go_at_call 54; refine (both_as _ (v) _ (by omega) (by omega) (by omega)).mono ?_; rintro e w' ⟨rfl, rfl⟩)
          go_ret
          exact ⟨ret_int (by rw [HC.out, HQ.out]), rfl⟩
        · have hq := show quS (v) = near (fsS (32 - (v))) by unfold quS; rw [if_neg h3]
          rw [hq] at g1 g2
          have HQ := Lib.hid hq
          clear hq
          go_enter Try.func51, Try.ntmps51
          go_wp2_with (go_at_call 54; refine (both_as _ (32 - (v)) _ (by omega) (by omega) (by omega)).mono ?_; rintro e w' ⟨rfl, rfl⟩)
          go_ret
          exact ⟨ret_int (by rw [HC.out, HQ.out]), rfl⟩
  · by_cases h1 : 64 < v
    · by_cases h2 : 32 < 128 - v
      · have HC := Lib.hid (show c0 v = -quS (64 - (128 - v)) by unfold c0; rw [if_pos h1, if_pos h2])
        obtain ⟨g1, g2⟩ := g (64 - (128 - v)) (by omega) (by omega)
        clear g
        by_cases h3 : 64 - (128 - v) ≤ 16
        · have hq := show quS (64 - (128 - v)) = near (fcS (64 - (128 - v))) by unfold quS; rw [if_pos h3]
          rw [hq] at g1 g2
          have HQ := Lib.hid hq
          clear hq
          go_enter Try.func51, Try.ntmps51
          go_wp2_with (go_at_call 54; refine (both_as _ (64 - (128 - v)) _ (by omega) (by omega) (by omega)).mono ?_; rintro e w' ⟨rfl, rfl⟩)
          go_ret
          exact ⟨ret_int (by rw [HC.out, HQ.out]), rfl⟩
        · have hq := show quS (64 - (128 - v)) = near (fsS (32 - (64 - (128 - v)))) by unfold quS; rw [if_neg h3]
          rw [hq] at g1 g2
          have HQ := Lib.hid hq
          clear hq
          go_enter Try.func51, Try.ntmps51
          go_wp2_with (go_at_call 54; refine (both_as _ (32 - (64 - (128 - v))) _ (by omega) (by omega) (by omega)).mono ?_; rintro e w' ⟨rfl, rfl⟩)
          go_ret
          exact ⟨ret_int (by rw [HC.out, HQ.out]), rfl⟩
      · have HC := Lib.hid (show c0 v = quS (128 - v) by unfold c0; rw [if_pos h1, if_neg h2])
        obtain ⟨g1, g2⟩ := g (128 - v) (by omega) (by omega)
        clear g
        by_cases h3 : 128 - v ≤ 16
        · have hq := show quS (128 - v) = near (fcS (128 - v)) by unfold quS; rw [if_pos h3]
          rw [hq] at g1 g2
          have HQ := Lib.hid hq
          clear hq
          go_enter Try.func51, Try.ntmps51
          go_wp2_with (go_at_call 54; refine (both_as _ (128 - v) _ (by omega) (by omega) (by omega)).mono ?_; rintro e w' ⟨rfl, rfl⟩)
          go_ret
          exact ⟨ret_int (by rw [HC.out, HQ.out]), rfl⟩
        · have hq := show quS (128 - v) = near (fsS (32 - (128 - v))) by unfold quS; rw [if_neg h3]
          rw [hq] at g1 g2
          have HQ := Lib.hid hq
          clear hq
          go_enter Try.func51, Try.ntmps51
          go_wp2_with (go_at_call 54; refine (both_as _ (32 - (128 - v)) _ (by omega) (by omega) (by omega)).mono ?_; rintro e w' ⟨rfl, rfl⟩)
          go_ret
          exact ⟨ret_int (by rw [HC.out, HQ.out]), rfl⟩
    · by_cases h2 : 32 < v
      · have HC := Lib.hid (show c0 v = -quS (64 - v) by unfold c0; rw [if_neg h1, if_pos h2])
        obtain ⟨g1, g2⟩ := g (64 - v) (by omega) (by omega)
        clear g
        by_cases h3 : 64 - v ≤ 16
        · have hq := show quS (64 - v) = near (fcS (64 - v)) by unfold quS; rw [if_pos h3]
          rw [hq] at g1 g2
          have HQ := Lib.hid hq
          clear hq
          go_enter Try.func51, Try.ntmps51
          go_wp2_with (go_at_call 54; refine (both_as _ (64 - v) _ (by omega) (by omega) (by omega)).mono ?_; rintro e w' ⟨rfl, rfl⟩)
          go_ret
          exact ⟨ret_int (by rw [HC.out, HQ.out]), rfl⟩
        · have hq := show quS (64 - v) = near (fsS (32 - (64 - v))) by unfold quS; rw [if_neg h3]
          rw [hq] at g1 g2
          have HQ := Lib.hid hq
          clear hq
          go_enter Try.func51, Try.ntmps51
          go_wp2_with (go_at_call 54; refine (both_as _ (32 - (64 - v)) _ (by omega) (by omega) (by omega)).mono ?_; rintro e w' ⟨rfl, rfl⟩)
          go_ret
          exact ⟨ret_int (by rw [HC.out, HQ.out]), rfl⟩
      · have HC := Lib.hid (show c0 v = quS v by unfold c0; rw [if_neg h1, if_neg h2])
        obtain ⟨g1, g2⟩ := g (v) (by omega) (by omega)
        clear g
        by_cases h3 : v ≤ 16
        · have hq := show quS (v) = near (fcS (v)) by unfold quS; rw [if_pos h3]
          rw [hq] at g1 g2
          have HQ := Lib.hid hq
          clear hq
          go_enter Try.func51, Try.ntmps51
          go_wp2_with (go_at_call 54; refine (both_as _ (v) _ (by omega) (by omega) (by omega)).mono ?_; rintro e w' ⟨rfl, rfl⟩)
          go_ret
          exact ⟨ret_int (by rw [HC.out, HQ.out]), rfl⟩
        · have hq := show quS (v) = near (fsS (32 - (v))) by unfold quS; rw [if_neg h3]
          rw [hq] at g1 g2
          have HQ := Lib.hid hq
          clear hq
          go_enter Try.func51, Try.ntmps51
          go_wp2_with (go_at_call 54; refine (both_as _ (32 - (v)) _ (by omega) (by omega) (by omega)).mono ?_; rintro e w' ⟨rfl, rfl⟩)
          go_ret
          exact ⟨ret_int (by rw [HC.out, HQ.out]), rfl⟩

theorem refSin_any (u : Int) (w : World) :
    Calls Try.prog 43 #[.int .i64 u] w fun e w' => e = .returned (.int .i64 (sinS u)) ∧ w = w' := by
  obtain ⟨b1, b2⟩ := tmod_bd u 128 (by omega)
  have HS := Lib.hid (show cosS (u.tmod 128 - 32) = sinS u from cosS_eq (tmod128 u))
  go_enter Try.func43, Try.ntmps43
  go_wp2_with (go_at_call 51; refine (refCos_any _ _).mono ?_; rintro e w' ⟨rfl, rfl⟩)
  go_ret
  exact ⟨ret_int HS.out, rfl⟩

theorem refCos_as (u c : Int) (w : World) (h : cosS u = c) :
    Calls Try.prog 51 #[.int .i64 u] w fun e w' => e = .returned (.int .i64 c) ∧ w = w' := by
  subst h; exact refCos_any u w

theorem refSin_as (u c : Int) (w : World) (h : sinS u = c) :
    Calls Try.prog 43 #[.int .i64 u] w fun e w' => e = .returned (.int .i64 c) ∧ w = w' := by
  subst h; exact refSin_any u w
end Go.Proofs.Ytfpmajlgbipbmaa.Ang
