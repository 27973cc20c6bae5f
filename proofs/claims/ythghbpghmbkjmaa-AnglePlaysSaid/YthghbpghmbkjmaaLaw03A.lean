/- The statements' walks of layer 3, first part: AngleTurns, AngleSquares, AngleTwice. -/
import Derived.Test.YthghbpghmbkjmaaAngA
namespace Go.Proofs.Ythghbpghmbkjmaa.Ang
open Go.RowKit

theorem sq0 (c : Int) : 0 ≤ c * c := by rw [← Int.natAbs_mul_self]; exact Int.natCast_nonneg _

theorem angleTurns_walk (a0 : Int) (_w0 : (Lit.int .i64 a0).wf = true) (w : World) :
    Calls Try.prog 3 #[.int .i64 a0] w fun e w' => e = .returned (.bool true) ∧ Grown w w' := by
  obtain ⟨r1, r2⟩ := tmod_bd a0 100000 (by omega)
  obtain ⟨c, hc⟩ : ∃ c, cosS (a0.tmod 100000) = c := ⟨_, rfl⟩
  obtain ⟨s, hs⟩ : ∃ s, sinS (a0.tmod 100000) = s := ⟨_, rfl⟩
  obtain ⟨c1, c2⟩ := cos_bd (a0.tmod 100000)
  obtain ⟨s1, s2⟩ := cos_bd (a0.tmod 100000 - 32)
  change -32768 ≤ sinS _ at s1
  change sinS _ ≤ 32768 at s2
  rw [hc] at c1 c2
  rw [hs] at s1 s2
  have H1 := Lib.hid hc
  have H2 := Lib.hid hs
  have H3 := Lib.hid ((cos_half (a0.tmod 100000)).trans (congrArg Neg.neg hc))
  have H4 := Lib.hid ((cosS_add (a0.tmod 100000)).trans hc)
  have H5 := Lib.hid ((cos_neg (a0.tmod 100000)).trans hc)
  have H6 := Lib.hid ((sin_neg (a0.tmod 100000)).trans (congrArg Neg.neg hs))
  have H7 := Lib.hid ((sin_32 (a0.tmod 100000)).trans hc)
  have H8 := Lib.hid ((cos_32 (a0.tmod 100000)).trans (congrArg Neg.neg hs))
  clear hc hs
  go_enter Try.func3, Try.ntmps3
  go_wp2_with (first
    | (go_at_call 8; refine (awake_yes _).mono ?_; rintro e w' ⟨rfl, rfl⟩)
    | (go_at_call 9; (with_reducible first | refine (cos_as _ _ _ H1.out).mono ?_ | refine (cos_as _ _ _ H3.out).mono ?_ | refine (cos_as _ _ _ H4.out).mono ?_ | refine (cos_as _ _ _ H5.out).mono ?_ | refine (cos_as _ _ _ H8.out).mono ?_); rintro e w' ⟨rfl, rfl⟩)
    | (go_at_call 10; (with_reducible first | refine (sin_as _ _ _ H2.out).mono ?_ | refine (sin_as _ _ _ H6.out).mono ?_ | refine (sin_as _ _ _ H7.out).mono ?_); rintro e w' ⟨rfl, rfl⟩))
  go_ret
  exact ⟨rfl, Grown.refl _⟩

theorem angleSquares_walk (a0 : Int) (w0 : (Lit.int .u8 a0).wf = true) (w : World) :
    Calls Try.prog 4 #[.int .u8 a0] w fun e w' => e = .returned (.bool true) ∧ Grown w w' := by
  obtain ⟨b1, b2⟩ := bounds_u8 w0
  clear w0
  have hk : (((a0 % 64).toNat : Nat) : Int) = a0 % 64 := by omega
  obtain ⟨q1, q2, q3⟩ := squares (a0 % 64).toNat (by omega)
  rw [hk] at q1 q2 q3
  obtain ⟨c, hc⟩ : ∃ c, cosS (a0 % 64) = c := ⟨_, rfl⟩
  obtain ⟨s, hs⟩ : ∃ s, sinS (a0 % 64) = s := ⟨_, rfl⟩
  obtain ⟨d, hd⟩ : ∃ d, cosS (a0 % 64 + 1) = d := ⟨_, rfl⟩
  rw [hc, hs] at q1 q2
  rw [hc, hd] at q3
  obtain ⟨c1, c2⟩ := cos_bd (a0 % 64)
  obtain ⟨s1, s2⟩ := cos_bd (a0 % 64 - 32)
  change -32768 ≤ sinS _ at s1
  change sinS _ ≤ 32768 at s2
  rw [hc] at c1 c2
  rw [hs] at s1 s2
  have m1 := sq0 c
  have m2 := sq0 s
  have H1 := Lib.hid hc
  have H2 := Lib.hid hs
  have H3 := Lib.hid hd
  clear hc hs hd hk
  go_enter Try.func4, Try.ntmps4
  go_wp2_with (first
    | (go_at_call 8; refine (awake_yes _).mono ?_; rintro e w' ⟨rfl, rfl⟩)
    | (go_at_call 9; (with_reducible first | refine (cos_as _ _ _ H1.out).mono ?_ | refine (cos_as _ _ _ H3.out).mono ?_); rintro e w' ⟨rfl, rfl⟩)
    | (go_at_call 10; (with_reducible refine (sin_as _ _ _ H2.out).mono ?_); rintro e w' ⟨rfl, rfl⟩))
  go_ret
  exact ⟨rfl, Grown.refl _⟩

theorem angleTwice_walk (a0 : Int) (_w0 : (Lit.int .i64 a0).wf = true) (w : World) :
    Calls Try.prog 7 #[.int .i64 a0] w fun e w' => e = .returned (.bool true) ∧ Grown w w' := by
  obtain ⟨r1, r2⟩ := tmod_bd a0 100000 (by omega)
  obtain ⟨q1, q2⟩ := cos_twice (a0.tmod 100000)
  obtain ⟨c, hc⟩ : ∃ c, cosS (a0.tmod 100000) = c := ⟨_, rfl⟩
  obtain ⟨s, hs⟩ : ∃ s, cosS (2 * a0.tmod 100000) = s := ⟨_, rfl⟩
  obtain ⟨c1, c2⟩ := cos_bd (a0.tmod 100000)
  obtain ⟨s1, s2⟩ := cos_bd (2 * a0.tmod 100000)
  rw [hc] at c1 c2
  rw [hs] at s1 s2
  rw [hc, hs] at q1 q2
  have m1 : 0 ≤ 2 * c * c := by rw [Int.mul_assoc]; exact Int.mul_nonneg (by omega) (sq0 c)
  have H1 := Lib.hid hc
  have H2 := Lib.hid hs
  clear hc hs
  go_enter Try.func7, Try.ntmps7
  go_wp2_with (first
    | (go_at_call 8; refine (awake_yes _).mono ?_; rintro e w' ⟨rfl, rfl⟩)
    | (go_at_call 9; (with_reducible first | refine (cos_as _ _ _ H1.out).mono ?_ | refine (cos_as _ _ _ H2.out).mono ?_); rintro e w' ⟨rfl, rfl⟩))
  go_ret
  exact ⟨rfl, Grown.refl _⟩
end Go.Proofs.Ythghbpghmbkjmaa.Ang
