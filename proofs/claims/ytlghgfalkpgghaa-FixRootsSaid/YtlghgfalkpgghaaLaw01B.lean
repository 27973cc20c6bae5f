/- The statements' walks of layer 1, second part: FixRoots, FixPlays, FixOrder. -/
import Derived.Test.YtlghgfalkpgghaaLaw01A
import Derived.Test.YtlghgfalkpgghaaRef01
import Derived.Deep.DeepCutAuto
namespace Go.Proofs.Ytlghgfalkpgghaa.Law01
open Go.RowKit Go.Proofs.Ytlghgfalkpgghaa.Fix
set_option linter.unusedVariables false

theorem bl_spec : ∀ (f x : Nat), f ≤ 64 → x < 2 ^ f → x < 2 ^ Lib.bitLen x ∧ Lib.bitLen x ≤ f ∧ (x ≠ 0 → 1 ≤ Lib.bitLen x ∧ 2 ^ (Lib.bitLen x - 1) ≤ x)
  | 0, x, _, h => by
    obtain rfl : x = 0 := by simp at h; omega
    have hz : Lib.bitLen 0 = 0 := by decide
    rw [hz]; simp
  | f + 1, x, hf, h => by
    by_cases h0 : x = 0
    · subst h0
      have hz : Lib.bitLen 0 = 0 := by decide
      rw [hz]; simp
    · have h64 : x < 2 ^ 64 := Nat.lt_of_lt_of_le h (Nat.pow_le_pow_right (by omega) hf)
      have hh := Lib.bitLen_half x h0 h64
      obtain ⟨i1, i2, i3⟩ := bl_spec f (x / 2) (by omega) (by rw [Nat.pow_succ] at h; omega)
      rw [hh]
      refine ⟨by rw [Nat.add_comm, Nat.pow_succ]; omega, by omega, fun _ => ⟨by omega, ?_⟩⟩
      rw [show 1 + Lib.bitLen (x / 2) - 1 = Lib.bitLen (x / 2) by omega]
      by_cases h1 : x / 2 = 0
      · have hz : Lib.bitLen 0 = 0 := by decide
        rw [h1, hz]; simp; omega
      · obtain ⟨j1, j2⟩ := i3 h1
        rw [show Lib.bitLen (x / 2) = Lib.bitLen (x / 2) - 1 + 1 by omega, Nat.pow_succ]; omega

theorem root_lt (x r : Int) (h2 : x ≤ 4611686018427387903) (r0 : 0 ≤ r) (r1 : r * r ≤ x) : r ≤ 2147483647 := by
  by_cases h : r ≤ 2147483647
  · exact h
  · have := Int.mul_le_mul (show (2147483648 : Int) ≤ r by omega) (show (2147483648 : Int) ≤ r by omega) (by omega) (by omega)
    omega

def Root62 (x : Int) (w : World) (e : Ending) (w' : World) : Prop :=
  ∃ r : Int, 0 ≤ r ∧ r ≤ 2147483647 ∧ 0 ≤ r * r ∧ r * r ≤ x ∧ x < (r + 1) * (r + 1) ∧ (r + 1) * (r + 1) ≤ 4611686018427387904 ∧ e = .returned (.int .i64 r) ∧ w = w'

theorem root_62 (x : Int) (w : World) (h1 : 0 ≤ x) (h2 : x ≤ 4611686018427387903) :
    Calls Try.prog 12 #[.int .i64 x] w (Root62 x w) := by
  refine (root_any x w h1 (by omega)).mono ?_
  rintro e w' ⟨r, ⟨r0, r1, r2⟩, rfl, rfl⟩
  have hr := root_lt x r h2 r0 r1
  have hs := Int.mul_le_mul (show r + 1 ≤ 2147483648 by omega) (show r + 1 ≤ 2147483648 by omega) (by omega) (by omega)
  exact ⟨r, r0, hr, Int.mul_nonneg r0 r0, r1, r2, by omega, rfl, rfl⟩

theorem root_zero (w : World) :
    Calls Try.prog 12 #[.int .i64 0] w fun e w' => e = .returned (.int .i64 0) ∧ w = w' := by
  refine (root_62 0 w (by omega) (by omega)).mono ?_
  rintro e w' ⟨r, r0, r1, r2, r3, r4, r5, rfl, rfl⟩
  by_cases h : r = 0
  · subst h; exact ⟨rfl, rfl⟩
  · have := Int.mul_pos (show 0 < r by omega) (show 0 < r by omega)
    omega

theorem length_as (x : Int) (n : Nat) (w : World) (h1 : -9223372036854775808 ≤ x) (h2 : x ≤ 9223372036854775807) (h : Lib.bitLen x.natAbs = n) :
    Calls Try.prog 13 #[.int .i64 x] w fun e w' => e = .returned (.int .i64 (n : Int)) ∧ w = w' := by
  subst h; exact length_any x w h1 h2

theorem fixRoots_walk (a0 : Int) (w0 : (Lit.int .u64 a0).wf = true) (w : World) :
    Calls Try.prog 4 #[.int .u64 a0] w fun e w' => e = .returned (.bool true) ∧ Grown w w' := by
  obtain ⟨b1, b2⟩ := bounds_u64 w0
  clear w0
  have hX : bits .and .u64 a0 4611686018427387903 = a0 % 4611686018427387904 := by go_bits2
  obtain ⟨X, hx⟩ : ∃ X : Int, a0 % 4611686018427387904 = X := ⟨_, rfl⟩
  have x1 : 0 ≤ X := by omega
  have x2 : X ≤ 4611686018427387903 := by omega
  rw [hx] at hX
  clear hx
  obtain ⟨s1, s2, s3⟩ := bl_spec 62 X.natAbs (by omega) (by omega)
  obtain ⟨l, hl⟩ : ∃ l : Nat, Lib.bitLen X.natAbs = l := ⟨_, rfl⟩
  have HL := Lib.hid hl
  have HM := Lib.hid (show Lib.bitLen (-X).natAbs = l by rw [Int.natAbs_neg]; exact hl)
  rw [hl] at s1 s2 s3
  clear hl
  by_cases h0 : X = 0
  · subst h0
    have hz : l = 0 := by have := HL.out; have hz : Lib.bitLen (0 : Int).natAbs = 0 := by decide
                          omega
    subst hz
    have HP := Lib.hid (show (2 : Int) ^ (0 : Int).toNat = 1 by rfl)
    clear s1 s2 s3 b1 b2 x1 x2 HM
    go_enter Try.func4, Try.ntmps4
    go_wp2_with (first
      | (go_at_call 11; refine (awake_yes _).mono ?_; rintro e w' ⟨rfl, rfl⟩)
      | (go_at_call 12; refine (root_zero _).mono ?_; rintro e w' ⟨rfl, rfl⟩)
      | (go_at_call 13; (with_reducible refine (length_as _ 0 _ (by omega) (by omega) HL.out).mono ?_); rintro e w' ⟨rfl, rfl⟩)
      | (go_at_call 10; refine (pow_as _ 1 _ (by omega) (by omega) (by simp)).mono ?_; rintro e w' ⟨rfl, rfl⟩))
    go_ret
    exact ⟨rfl, Grown.refl _⟩
  · obtain ⟨l1, l2⟩ := s3 (by omega)
    obtain ⟨p, hp⟩ : ∃ p : Int, 2 ^ l = p := ⟨_, rfl⟩
    obtain ⟨q, hq⟩ : ∃ q : Int, 2 ^ (l - 1) = q := ⟨_, rfl⟩
    have p2 := (pow_bd s2).2
    have p1 : X < p := by have := pow_cast l; omega
    have q1 : q ≤ X := by have := pow_cast (l - 1); omega
    rw [hp] at p2
    simp only [Int.reducePow] at p2
    have x3 : (X == 0) = false := by simpa using h0
    have x4 : 1 ≤ X := by omega
    have HP := Lib.hid (show (2 : Int) ^ (l : Int).toNat = p by simpa using hp)
    have HQ := Lib.hid (show (2 : Int) ^ ((l : Int) - 1).toNat = q by rw [show ((l : Int) - 1).toNat = l - 1 by omega]; exact hq)
    clear hp hq s1 s3 l2 h0 b1 b2 x1
    go_enter Try.func4, Try.ntmps4
    go_wp2_with (first
      | (go_at_call 11; refine (awake_yes _).mono ?_; rintro e w' ⟨rfl, rfl⟩)
      | (go_at_call 12; refine (root_neg _ _ (by omega)).mono ?_; rintro e w' ⟨rfl, rfl⟩)
      | (go_at_call 12; refine (root_62 _ _ (by omega) (by omega)).mono ?_; rintro e w' ⟨r, r0, r1, r2, r3, r4, r5, rfl, rfl⟩)
      | (go_at_call 13; (with_reducible refine (length_as _ l _ (by omega) (by omega) (by with_reducible first | exact HL.out | exact HM.out)).mono ?_); rintro e w' ⟨rfl, rfl⟩)
      | (go_at_call 10; (with_reducible refine (pow_as _ p _ (by omega) (by omega) HP.out).mono ?_); rintro e w' ⟨rfl, rfl⟩)
      | (go_at_call 10; (with_reducible refine (pow_as _ q _ (by omega) (by omega) HQ.out).mono ?_); rintro e w' ⟨rfl, rfl⟩))
    go_ret
    exact ⟨rfl, Grown.refl _⟩

theorem exists_root : ∀ n : Nat, ∃ r : Nat, r * r ≤ n ∧ n < (r + 1) * (r + 1)
  | 0 => ⟨0, by simp, by simp⟩
  | n + 1 => by
    obtain ⟨r, h1, h2⟩ := exists_root n
    by_cases h : n + 1 < (r + 1) * (r + 1)
    · exact ⟨r, by omega, h⟩
    · refine ⟨r + 1, by omega, ?_⟩
      have : (r + 1 + 1) * (r + 1 + 1) = (r + 1) * (r + 1) + 2 * r + 3 := by
        simp only [Nat.mul_add, Nat.add_mul]; omega
      omega
theorem root_is (x : Int) (h : 0 ≤ x) : ∃ r : Int, RootOf x r := by
  obtain ⟨r, h1, h2⟩ := exists_root x.toNat
  have e1 : ((r * r : Nat) : Int) = r * r := Int.natCast_mul r r
  have e2 : (((r + 1) * (r + 1) : Nat) : Int) = (r + 1) * (r + 1) := by rw [Int.natCast_mul]; simp
  exact ⟨r, by omega, by omega, by omega⟩
theorem root_mono (x y r s : Int) (hx : RootOf x r) (hy : RootOf y s) (h : x ≤ y) : r ≤ s := by
  obtain ⟨a0, a1, a2⟩ := hx
  obtain ⟨b0, b1, b2⟩ := hy
  by_cases c : r ≤ s
  · exact c
  · have := Int.mul_le_mul (show s + 1 ≤ r by omega) (show s + 1 ≤ r by omega) (by omega) (by omega)
    omega
theorem root_as (x r : Int) (w : World) (h1 : 0 ≤ x) (h2 : x ≤ 9223372036854775807) (h : RootOf x r) :
    Calls Try.prog 12 #[.int .i64 x] w fun e w' => e = .returned (.int .i64 r) ∧ w = w' := by
  refine (root_any x w h1 h2).mono ?_
  rintro e w' ⟨s, hs, rfl, rfl⟩
  have e1 := root_mono x x r s h hs (by omega)
  have e2 := root_mono x x s r hs h (by omega)
  obtain rfl : r = s := by omega
  exact ⟨rfl, rfl⟩
theorem cut_mono (x y n : Int) (h : x ≤ y) : cutS x n ≤ cutS y n := by
  unfold cutS
  by_cases c : n < 1 ∨ 62 < n
  · rw [if_pos c, if_pos c]; exact h
  · rw [if_neg c, if_neg c]; omega
theorem bl_mono (x y : Nat) (h : x ≤ y) (hy : y < 2 ^ 64) : Lib.bitLen x ≤ Lib.bitLen y := by
  obtain ⟨a1, a2, a3⟩ := bl_spec 64 y (by omega) hy
  exact Lib.bitLen_le x _ a2 (by omega)
theorem shift_mono (x y n : Int) (h : x ≤ y) (h1 : -1099511627776 ≤ x) (h2 : y ≤ 1099511627776) (h3 : 1 ≤ n) (h4 : n ≤ 40) : shiftS x n ≤ shiftS y n := by
  have hp := (pow_bd (Nat.le_refl (n.toNat - 1))).1
  rw [shift_pos x n _ (by omega) (by omega) h3 h4 rfl, shift_pos y n _ (by omega) (by omega) h3 h4 rfl]
  exact Int.ediv_le_ediv (by omega) (by omega)

theorem and40 (n : Int) : bits .and .i64 n 1099511627775 = n % 1099511627776 := by
  have e : ((BitVec.ofInt 64 n) &&& (BitVec.ofInt 64 1099511627775)).toNat = (n % 1099511627776).toNat := by
    rw [BitVec.toNat_and, BitVec.toNat_ofInt, BitVec.toNat_ofInt]
    have h2 : ((1099511627775 : Int) % ((2 ^ 64 : Nat) : Int)).toNat = 2 ^ 40 - 1 := by decide +kernel
    rw [h2, Nat.and_two_pow_sub_one_eq_mod]
    have h3 : ((2 ^ 64 : Nat) : Int) = 18446744073709551616 := by decide +kernel
    rw [h3]
    omega
  show IntKind.i64.wrap ((((BitVec.ofInt 64 n) &&& (BitVec.ofInt 64 1099511627775)).toNat : Nat) : Int) = _
  rw [e, IntKind.wrap_i64]
  omega

theorem fixOrder_walk (a0 : Int) (a1 : Int) (a2 : Int) (w0 : (Lit.int .i64 a0).wf = true) (w1 : (Lit.int .i64 a1).wf = true) (w2 : (Lit.int .u8 a2).wf = true) (w : World) :
    Calls Try.prog 8 #[.int .i64 a0, .int .i64 a1, .int .u8 a2] w fun e w' => e = .returned (.bool true) ∧ Grown w w' := by
  obtain ⟨d1, d2⟩ := bounds_u8 w2
  have hX : bits .and .i64 a0 1099511627775 = a0 % 1099511627776 := and40 a0
  have hY : bits .and .i64 a1 1099511627775 = a1 % 1099511627776 := and40 a1
  obtain ⟨X, hx⟩ : ∃ X : Int, a0 % 1099511627776 = X := ⟨_, rfl⟩
  obtain ⟨Y, hy⟩ : ∃ Y : Int, a1 % 1099511627776 = Y := ⟨_, rfl⟩
  have x1 : 0 ≤ X := by omega
  have x2 : X ≤ 1099511627775 := by omega
  have y1 : 0 ≤ Y := by omega
  have y2 : Y ≤ 1099511627775 := by omega
  rw [hx] at hX
  rw [hy] at hY
  clear hx hy w0 w1 w2
  obtain ⟨rx, hrx⟩ := root_is X x1
  obtain ⟨ry, hry⟩ := root_is Y y1
  have HRX := Lib.hid hrx
  have HRY := Lib.hid hry
  obtain ⟨cx, hcx⟩ : ∃ c : Int, cutS X (1 + a2 % 40) = c := ⟨_, rfl⟩
  obtain ⟨cy, hcy⟩ : ∃ c : Int, cutS Y (1 + a2 % 40) = c := ⟨_, rfl⟩
  obtain ⟨lx, hlx⟩ : ∃ c : Nat, Lib.bitLen X.natAbs = c := ⟨_, rfl⟩
  obtain ⟨ly, hly⟩ : ∃ c : Nat, Lib.bitLen Y.natAbs = c := ⟨_, rfl⟩
  obtain ⟨sx, hsx⟩ : ∃ c : Int, shiftS X (1 + a2 % 40) = c := ⟨_, rfl⟩
  obtain ⟨sy, hsy⟩ : ∃ c : Int, shiftS Y (1 + a2 % 40) = c := ⟨_, rfl⟩
  obtain ⟨tx, htx⟩ : ∃ c : Int, shiftS (-X) (1 + a2 % 40) = c := ⟨_, rfl⟩
  obtain ⟨ty, hty⟩ : ∃ c : Int, shiftS (-Y) (1 + a2 % 40) = c := ⟨_, rfl⟩
  have HCX := Lib.hid hcx
  have HCY := Lib.hid hcy
  have HLX := Lib.hid hlx
  have HLY := Lib.hid hly
  have HSX := Lib.hid hsx
  have HSY := Lib.hid hsy
  have HTX := Lib.hid htx
  have HTY := Lib.hid hty
  by_cases h : X ≤ Y
  · have o1 : cx ≤ cy := by rw [← hcx, ← hcy]; exact cut_mono X Y _ h
    have o2 : lx ≤ ly := by rw [← hlx, ← hly]; exact bl_mono _ _ (by omega) (by omega)
    have o3 : rx ≤ ry := root_mono X Y rx ry hrx hry h
    have o4 : sx ≤ sy := by rw [← hsx, ← hsy]; exact shift_mono X Y _ h (by omega) (by omega) (by omega) (by omega)
    have o5 : ty ≤ tx := by rw [← htx, ← hty]; exact shift_mono (-Y) (-X) _ (by omega) (by omega) (by omega) (by omega) (by omega)
    have h' : ¬ Y < X := by omega
    clear hrx hry hcx hcy hlx hly hsx hsy htx hty
    go_enter Try.func8, Try.ntmps8
    go_wp2_with (first
      | (go_at_call 11; refine (awake_yes _).mono ?_; rintro e w' ⟨rfl, rfl⟩)
      | (go_at_call 9; (with_reducible refine (cut_as _ _ cx _ HCX.out).mono ?_); rintro e w' ⟨rfl, rfl⟩)
      | (go_at_call 9; (with_reducible refine (cut_as _ _ cy _ HCY.out).mono ?_); rintro e w' ⟨rfl, rfl⟩)
      | (go_at_call 12; (with_reducible refine (root_as _ rx _ (by omega) (by omega) HRX.out).mono ?_); rintro e w' ⟨rfl, rfl⟩)
      | (go_at_call 12; (with_reducible refine (root_as _ ry _ (by omega) (by omega) HRY.out).mono ?_); rintro e w' ⟨rfl, rfl⟩)
      | (go_at_call 13; (with_reducible refine (length_as _ lx _ (by omega) (by omega) HLX.out).mono ?_); rintro e w' ⟨rfl, rfl⟩)
      | (go_at_call 13; (with_reducible refine (length_as _ ly _ (by omega) (by omega) HLY.out).mono ?_); rintro e w' ⟨rfl, rfl⟩)
      | (go_at_call 14; (with_reducible refine (shift_as _ _ sx _ HSX.out).mono ?_); rintro e w' ⟨rfl, rfl⟩)
      | (go_at_call 14; (with_reducible refine (shift_as _ _ sy _ HSY.out).mono ?_); rintro e w' ⟨rfl, rfl⟩)
      | (go_at_call 14; (with_reducible refine (shift_as _ _ tx _ HTX.out).mono ?_); rintro e w' ⟨rfl, rfl⟩)
      | (go_at_call 14; (with_reducible refine (shift_as _ _ ty _ HTY.out).mono ?_); rintro e w' ⟨rfl, rfl⟩))
    go_ret
    exact ⟨rfl, Grown.refl _⟩
  · have o1 : cy ≤ cx := by rw [← hcx, ← hcy]; exact cut_mono Y X _ (by omega)
    have o2 : ly ≤ lx := by rw [← hlx, ← hly]; exact bl_mono _ _ (by omega) (by omega)
    have o3 : ry ≤ rx := root_mono Y X ry rx hry hrx (by omega)
    have o4 : sy ≤ sx := by rw [← hsx, ← hsy]; exact shift_mono Y X _ (by omega) (by omega) (by omega) (by omega) (by omega)
    have o5 : tx ≤ ty := by rw [← htx, ← hty]; exact shift_mono (-X) (-Y) _ (by omega) (by omega) (by omega) (by omega) (by omega)
    have h' : Y < X := by omega
    clear hrx hry hcx hcy hlx hly hsx hsy htx hty h
    go_enter Try.func8, Try.ntmps8
    go_wp2_with (first
      | (go_at_call 11; refine (awake_yes _).mono ?_; rintro e w' ⟨rfl, rfl⟩)
      | (go_at_call 9; (with_reducible refine (cut_as _ _ cx _ HCX.out).mono ?_); rintro e w' ⟨rfl, rfl⟩)
      | (go_at_call 9; (with_reducible refine (cut_as _ _ cy _ HCY.out).mono ?_); rintro e w' ⟨rfl, rfl⟩)
      | (go_at_call 12; (with_reducible refine (root_as _ rx _ (by omega) (by omega) HRX.out).mono ?_); rintro e w' ⟨rfl, rfl⟩)
      | (go_at_call 12; (with_reducible refine (root_as _ ry _ (by omega) (by omega) HRY.out).mono ?_); rintro e w' ⟨rfl, rfl⟩)
      | (go_at_call 13; (with_reducible refine (length_as _ lx _ (by omega) (by omega) HLX.out).mono ?_); rintro e w' ⟨rfl, rfl⟩)
      | (go_at_call 13; (with_reducible refine (length_as _ ly _ (by omega) (by omega) HLY.out).mono ?_); rintro e w' ⟨rfl, rfl⟩)
      | (go_at_call 14; (with_reducible refine (shift_as _ _ sx _ HSX.out).mono ?_); rintro e w' ⟨rfl, rfl⟩)
      | (go_at_call 14; (with_reducible refine (shift_as _ _ sy _ HSY.out).mono ?_); rintro e w' ⟨rfl, rfl⟩)
      | (go_at_call 14; (with_reducible refine (shift_as _ _ tx _ HTX.out).mono ?_); rintro e w' ⟨rfl, rfl⟩)
      | (go_at_call 14; (with_reducible refine (shift_as _ _ ty _ HTY.out).mono ?_); rintro e w' ⟨rfl, rfl⟩))
    go_ret
    exact ⟨rfl, Grown.refl _⟩

end Go.Proofs.Ytlghgfalkpgghaa.Law01
