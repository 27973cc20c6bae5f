/- Contracts of bits.Len64, bits.Len, Length and Root. -/
import Derived.Test.YtlghgfalkpgghaaFixA
import Derived.Lib.BitFns
import Derived.Lib.Walk
namespace Go.Proofs.Ytlghgfalkpgghaa.Fix
open Go.RowKit
set_option linter.unusedVariables false

/-- The end of each of Len64's ways: y is x without its last k digits. -/
theorem len_end (x y : Int) (k : Nat) (h1 : 0 ≤ x) (h2 : x ≤ 18446744073709551615) (hk : 2 ^ k ≤ x.toNat) (hy : y.toNat = x.toNat / 2 ^ k) (y1 : 0 ≤ y) (y2 : y ≤ 255) :
    (k : Int) + Lib.len8 y = Lib.bitLen x.toNat ∧ 0 ≤ Lib.len8 y ∧ Lib.len8 y ≤ 8 := by
  rw [Lib.len8_of y y1 y2]
  have l := Lib.bitLen_le8' y y1 y2
  have s := Lib.bitLen_shift k x.toNat hk (by omega)
  rw [← hy] at s
  omega

set_option maxRecDepth 100000 in
theorem len64_111 (x : Int) (w : World) (h1 : 0 ≤ x) (h2 : x ≤ 18446744073709551615) (t1 : 4294967296 ≤ x) (t2 : 65536 ≤ x / 4294967296) (t3 : 256 ≤ x / 4294967296 / 65536) :
    Calls Try.prog 25 #[.int .u64 x] w fun e w' => e = .returned (.int .i64 (Lib.bitLen x.toNat)) ∧ w = w' := by
  have b1 : 0 ≤ x / 4294967296 / 65536 / 256 := by omega
  have b2 : x / 4294967296 / 65536 / 256 ≤ 255 := by omega
  obtain ⟨l1, l2, l3⟩ := len_end x (x / 4294967296 / 65536 / 256) 56 h1 h2 (by omega) (by omega) b1 b2
  have L1 := Lib.hid l1
  clear l1
  go_enter Try.func25, Try.ntmps25
  go_wp2
  go_ret
  exact ⟨ret_int L1.out, rfl⟩

set_option maxRecDepth 100000 in
theorem len64_110 (x : Int) (w : World) (h1 : 0 ≤ x) (h2 : x ≤ 18446744073709551615) (t1 : 4294967296 ≤ x) (t2 : 65536 ≤ x / 4294967296) (t3 : x / 4294967296 / 65536 < 256) :
    Calls Try.prog 25 #[.int .u64 x] w fun e w' => e = .returned (.int .i64 (Lib.bitLen x.toNat)) ∧ w = w' := by
  have b1 : 0 ≤ x / 4294967296 / 65536 := by omega
  have b2 : x / 4294967296 / 65536 ≤ 255 := by omega
  obtain ⟨l1, l2, l3⟩ := len_end x (x / 4294967296 / 65536) 48 h1 h2 (by omega) (by omega) b1 b2
  have L1 := Lib.hid l1
  clear l1
  go_enter Try.func25, Try.ntmps25
  go_wp2
  go_ret
  exact ⟨ret_int L1.out, rfl⟩

set_option maxRecDepth 100000 in
theorem len64_101 (x : Int) (w : World) (h1 : 0 ≤ x) (h2 : x ≤ 18446744073709551615) (t1 : 4294967296 ≤ x) (t2 : x / 4294967296 < 65536) (t3 : 256 ≤ x / 4294967296) :
    Calls Try.prog 25 #[.int .u64 x] w fun e w' => e = .returned (.int .i64 (Lib.bitLen x.toNat)) ∧ w = w' := by
  have b1 : 0 ≤ x / 4294967296 / 256 := by omega
  have b2 : x / 4294967296 / 256 ≤ 255 := by omega
  obtain ⟨l1, l2, l3⟩ := len_end x (x / 4294967296 / 256) 40 h1 h2 (by omega) (by omega) b1 b2
  have L1 := Lib.hid l1
  clear l1
  go_enter Try.func25, Try.ntmps25
  go_wp2
  go_ret
  exact ⟨ret_int L1.out, rfl⟩

set_option maxRecDepth 100000 in
theorem len64_100 (x : Int) (w : World) (h1 : 0 ≤ x) (h2 : x ≤ 18446744073709551615) (t1 : 4294967296 ≤ x) (t2 : x / 4294967296 < 65536) (t3 : x / 4294967296 < 256) :
    Calls Try.prog 25 #[.int .u64 x] w fun e w' => e = .returned (.int .i64 (Lib.bitLen x.toNat)) ∧ w = w' := by
  have b1 : 0 ≤ x / 4294967296 := by omega
  have b2 : x / 4294967296 ≤ 255 := by omega
  obtain ⟨l1, l2, l3⟩ := len_end x (x / 4294967296) 32 h1 h2 (by omega) (by omega) b1 b2
  have L1 := Lib.hid l1
  clear l1
  go_enter Try.func25, Try.ntmps25
  go_wp2
  go_ret
  exact ⟨ret_int L1.out, rfl⟩

set_option maxRecDepth 100000 in
theorem len64_011 (x : Int) (w : World) (h1 : 0 ≤ x) (h2 : x ≤ 18446744073709551615) (t1 : x < 4294967296) (t2 : 65536 ≤ x) (t3 : 256 ≤ x / 65536) :
    Calls Try.prog 25 #[.int .u64 x] w fun e w' => e = .returned (.int .i64 (Lib.bitLen x.toNat)) ∧ w = w' := by
  have b1 : 0 ≤ x / 65536 / 256 := by omega
  have b2 : x / 65536 / 256 ≤ 255 := by omega
  obtain ⟨l1, l2, l3⟩ := len_end x (x / 65536 / 256) 24 h1 h2 (by omega) (by omega) b1 b2
  have L1 := Lib.hid l1
  clear l1
  go_enter Try.func25, Try.ntmps25
  go_wp2
  go_ret
  exact ⟨ret_int L1.out, rfl⟩

set_option maxRecDepth 100000 in
theorem len64_010 (x : Int) (w : World) (h1 : 0 ≤ x) (h2 : x ≤ 18446744073709551615) (t1 : x < 4294967296) (t2 : 65536 ≤ x) (t3 : x / 65536 < 256) :
    Calls Try.prog 25 #[.int .u64 x] w fun e w' => e = .returned (.int .i64 (Lib.bitLen x.toNat)) ∧ w = w' := by
  have b1 : 0 ≤ x / 65536 := by omega
  have b2 : x / 65536 ≤ 255 := by omega
  obtain ⟨l1, l2, l3⟩ := len_end x (x / 65536) 16 h1 h2 (by omega) (by omega) b1 b2
  have L1 := Lib.hid l1
  clear l1
  go_enter Try.func25, Try.ntmps25
  go_wp2
  go_ret
  exact ⟨ret_int L1.out, rfl⟩

set_option maxRecDepth 100000 in
theorem len64_001 (x : Int) (w : World) (h1 : 0 ≤ x) (h2 : x ≤ 18446744073709551615) (t1 : x < 4294967296) (t2 : x < 65536) (t3 : 256 ≤ x) :
    Calls Try.prog 25 #[.int .u64 x] w fun e w' => e = .returned (.int .i64 (Lib.bitLen x.toNat)) ∧ w = w' := by
  have b1 : 0 ≤ x / 256 := by omega
  have b2 : x / 256 ≤ 255 := by omega
  obtain ⟨l1, l2, l3⟩ := len_end x (x / 256) 8 h1 h2 (by omega) (by omega) b1 b2
  have L1 := Lib.hid l1
  clear l1
  go_enter Try.func25, Try.ntmps25
  go_wp2
  go_ret
  exact ⟨ret_int L1.out, rfl⟩

set_option maxRecDepth 100000 in
theorem len64_000 (x : Int) (w : World) (h1 : 0 ≤ x) (h2 : x ≤ 18446744073709551615) (t1 : x < 4294967296) (t2 : x < 65536) (t3 : x < 256) :
    Calls Try.prog 25 #[.int .u64 x] w fun e w' => e = .returned (.int .i64 (Lib.bitLen x.toNat)) ∧ w = w' := by
  have b1 : 0 ≤ x := by omega
  have b2 : x ≤ 255 := by omega
  have L1 := Lib.hid (Lib.len8_of x b1 b2)
  have l2 : 0 ≤ Lib.len8 x := by rw [L1.out]; omega
  have l3 : Lib.len8 x ≤ 8 := by rw [L1.out]; exact Int.ofNat_le.mpr (Lib.bitLen_le8' x b1 b2)
  go_enter Try.func25, Try.ntmps25
  go_wp2
  go_ret
  exact ⟨ret_int L1.out, rfl⟩

theorem len64_any (x : Int) (w : World) (h1 : 0 ≤ x) (h2 : x ≤ 18446744073709551615) :
    Calls Try.prog 25 #[.int .u64 x] w fun e w' => e = .returned (.int .i64 (Lib.bitLen x.toNat)) ∧ w = w' := by
  by_cases a : 4294967296 ≤ x
  · by_cases b : 65536 ≤ x / 4294967296
    · by_cases c : 256 ≤ x / 4294967296 / 65536
      · exact len64_111 x w h1 h2 a b c
      · exact len64_110 x w h1 h2 a b (by omega)
    · by_cases c : 256 ≤ x / 4294967296
      · exact len64_101 x w h1 h2 a (by omega) c
      · exact len64_100 x w h1 h2 a (by omega) (by omega)
  · by_cases b : 65536 ≤ x
    · by_cases c : 256 ≤ x / 65536
      · exact len64_011 x w h1 h2 (by omega) b c
      · exact len64_010 x w h1 h2 (by omega) b (by omega)
    · by_cases c : 256 ≤ x
      · exact len64_001 x w h1 h2 (by omega) (by omega) c
      · exact len64_000 x w h1 h2 (by omega) (by omega) (by omega)

theorem len_any (x : Int) (w : World) (h1 : 0 ≤ x) (h2 : x ≤ 18446744073709551615) :
    Calls Try.prog 20 #[.int .u64 x] w fun e w' => e = .returned (.int .i64 (Lib.bitLen x.toNat)) ∧ w = w' := by
  go_enter Try.func20, Try.ntmps20
  go_wp2_with (go_at_call 25; refine (len64_any _ _ (by omega) (by omega)).mono ?_; rintro e w' ⟨rfl, rfl⟩)
  go_ret
  exact ⟨rfl, rfl⟩

theorem len_as (x : Int) (n : Nat) (w : World) (h1 : 0 ≤ x) (h2 : x ≤ 18446744073709551615) (h : x.toNat = n) :
    Calls Try.prog 20 #[.int .u64 x] w fun e w' => e = .returned (.int .i64 (Lib.bitLen n)) ∧ w = w' := by
  subst h; exact len_any x w h1 h2

theorem wrap_min : IntKind.u64.wrap (wrap64 9223372036854775808) = 9223372036854775808 := by decide +kernel
theorem len_min (x : Int) (w : World) (h : x = 9223372036854775808) :
    Calls Try.prog 20 #[.int .u64 x] w fun e w' => e = .returned (.int .i64 (Lib.bitLen 9223372036854775808)) ∧ w = w' := by
  subst h; exact len_as _ _ w (by omega) (by omega) (by omega)

theorem length_any (x : Int) (w : World) (h1 : -9223372036854775808 ≤ x) (h2 : x ≤ 9223372036854775807) :
    Calls Try.prog 13 #[.int .i64 x] w fun e w' => e = .returned (.int .i64 (Lib.bitLen x.natAbs)) ∧ w = w' := by
  by_cases h0 : x < 0
  · by_cases hm : x = -9223372036854775808
    · subst hm
      clear h0 h1 h2
      go_enter Try.func13, Try.ntmps13
      go_wp2_with (go_at_call 20; refine (len_min _ _ wrap_min).mono ?_; rintro e w' ⟨rfl, rfl⟩)
      go_ret
      exact ⟨rfl, rfl⟩
    · have h3 : -9223372036854775807 ≤ x := by omega
      clear h1 hm
      go_enter Try.func13, Try.ntmps13
      go_wp2_with (go_at_call 20; refine (len_as _ x.natAbs _ (by omega) (by omega) (by omega)).mono ?_; rintro e w' ⟨rfl, rfl⟩)
      go_ret
      exact ⟨rfl, rfl⟩
  · have h3 : 0 ≤ x := by omega
    clear h1 h0
    go_enter Try.func13, Try.ntmps13
    go_wp2_with (go_at_call 20; refine (len_as _ x.natAbs _ (by omega) (by omega) (by omega)).mono ?_; rintro e w' ⟨rfl, rfl⟩)
    go_ret
    exact ⟨rfl, rfl⟩

theorem root_neg (x : Int) (w : World) (h : x < 0) :
    Calls Try.prog 12 #[.int .i64 x] w fun e w' => e = .returned (.int .i64 0) ∧ w = w' := by
  go_enter Try.func12, Try.ntmps12
  go_wp2
  go_ret
  exact ⟨rfl, rfl⟩

/-- r is the root of x. -/
def RootOf (x r : Int) : Prop := 0 ≤ r ∧ r * r ≤ x ∧ x < (r + 1) * (r + 1)

/-- What holds of a root's digits down to the k-th. -/
def RootInv (x R : Int) (k : Nat) : Prop := ∃ q : Nat, R = q * 2 ^ k ∧ R * R ≤ x ∧ x < (R + 2 ^ k) * (R + 2 ^ k) ∧ R + 2 ^ k ≤ 4294967296

theorem inv_start (x : Int) (h1 : 0 ≤ x) (h2 : x ≤ 9223372036854775807) : RootInv x 0 32 :=
  ⟨0, by simp, by simpa using h1, by simp; omega, by simp⟩
theorem inv_end (x R : Int) (h : RootInv x R 0) : RootOf x R := by
  obtain ⟨q, rfl, h1, h2, h3⟩ := h
  exact ⟨by simp, h1, by simpa using h2⟩
theorem inv_yes (x R : Int) (k : Nat) (h : RootInv x R (k + 1)) (ht : (R + 2 ^ k) * (R + 2 ^ k) ≤ x) : RootInv x (R + 2 ^ k) k := by
  obtain ⟨q, hq, h1, h2, h3⟩ := h
  have e : (2 : Int) ^ (k + 1) = 2 ^ k + 2 ^ k := by rw [Int.pow_succ]; omega
  rw [e] at h2 h3 hq
  refine ⟨2 * q + 1, ?_, ht, ?_, ?_⟩
  · rw [hq, Int.mul_add]
    simp only [Int.natCast_add, Int.natCast_mul, Int.add_mul, Int.mul_assoc]; omega
  · rw [Int.add_assoc]; exact h2
  · rw [Int.add_assoc]; exact h3
theorem inv_no (x R : Int) (k : Nat) (h : RootInv x R (k + 1)) (ht : x < (R + 2 ^ k) * (R + 2 ^ k)) : RootInv x R k := by
  obtain ⟨q, hq, h1, h2, h3⟩ := h
  have e : (2 : Int) ^ (k + 1) = 2 ^ k + 2 ^ k := by rw [Int.pow_succ]; omega
  have hp := (pow_bd (Nat.le_refl k)).1
  rw [e] at h2 h3 hq
  refine ⟨2 * q, ?_, h1, ht, by omega⟩
  rw [hq, Int.mul_add]
  simp only [Int.natCast_mul, Int.mul_assoc]; omega
theorem pow_cast (k : Nat) : (2 : Int) ^ k = ((2 ^ k : Nat) : Int) := (Int.natCast_pow 2 k).symm
theorem inv_or (x R : Int) (k : Nat) (h : RootInv x R (k + 1)) (hk : k ≤ 31) : bits .or .u64 R (2 ^ k) = R + 2 ^ k ∧ 0 ≤ R ∧ 0 ≤ R + 2 ^ k ∧ R + 2 ^ k ≤ 4294967295 := by
  obtain ⟨q, hq, h1, h2, h3⟩ := h
  have e : (2 : Int) ^ (k + 1) = 2 ^ k + 2 ^ k := by rw [Int.pow_succ]; omega
  have hp := (pow_bd (Nat.le_refl k)).1
  have hR : 0 ≤ R := by rw [hq]; exact Int.mul_nonneg (by omega) (by omega)
  rw [e] at h3
  refine ⟨?_, hR, by omega, by omega⟩
  have hm : R % 2 ^ (k + 1) = 0 := by rw [hq]; exact Int.mul_emod_left _ _
  obtain ⟨r, hr⟩ : ∃ r : Nat, R = r := ⟨R.toNat, by omega⟩
  have hn : r % 2 ^ (k + 1) = 0 := by rw [hr, pow_cast, ← Int.natCast_emod] at hm; omega
  have hlt : 2 ^ k < 2 ^ (k + 1) := by rw [Nat.pow_succ]; have := @Nat.one_le_two_pow k; omega
  have hk2 : 2 ^ k ≤ 2 ^ 31 := Nat.pow_le_pow_right (by omega) hk
  have h4 : (r : Int) + 2 ^ k ≤ 4294967296 := by omega
  have h5 : r + 2 ^ k ≤ 4294967296 := by rw [pow_cast] at h4; omega
  have e1 : ((2 ^ k : Nat) : Int) = 2 ^ k := Int.natCast_pow 2 k
  rw [hr, ← e1, u64_or_nat r (2 ^ k) (by omega) (by omega)]
  have hq2 : r = 2 ^ (k + 1) * (r / 2 ^ (k + 1)) := by have := Nat.div_add_mod r (2 ^ (k + 1)); omega
  have := Nat.two_pow_add_eq_or_of_lt hlt (r / 2 ^ (k + 1))
  rw [← hq2] at this
  rw [← this]; simp

def SomeRoot (x : Int) (w : World) (e : Ending) (w' : World) : Prop := ∃ r, RootOf x r ∧ e = .returned (.int .i64 r) ∧ w = w'

theorem root_any (x : Int) (w : World) (h1 : 0 ≤ x) (h2 : x ≤ 9223372036854775807) :
    Calls Try.prog 12 #[.int .i64 x] w (SomeRoot x w) := by
  have HI := Lib.hid (inv_start x h1 h2)
  go_enter Try.func12, Try.ntmps12
  go_wp2
  go_loop [4, 11] (fun r i => ∃ (j : Nat) (R : Int), j ≤ 32 ∧ i = .int .i64 (j : Int) ∧ r = .int .u64 R ∧ Hid (RootInv x R (32 - j))) (fun _ i => 32 - (intOf i).toNat)
  case atStart => exact ⟨0, 0, by omega, by simp, by simp, HI⟩
  case round =>
    obtain ⟨j, R, hj, rfl, rfl, HR⟩ := hrel
    clear HI
    by_cases hlt : j < 32
    · have hr : RootInv x R (31 - j + 1) := by rw [show 31 - j + 1 = 32 - j by omega]; exact HR.out
      obtain ⟨ho, r0, r1, r2⟩ := inv_or x R (31 - j) hr (by omega)
      obtain ⟨p1, p2⟩ := pow_bd (show 31 - j ≤ 31 by omega)
      simp only [Int.reducePow] at p2
      obtain ⟨T, hT⟩ : ∃ T : Int, R + 2 ^ (31 - j) = T := ⟨_, rfl⟩
      have HY : Hid (T * T ≤ x → RootInv x T (31 - j)) := Lib.hid (by rw [← hT]; exact inv_yes x R _ hr)
      have HN : Hid (x < T * T → RootInv x R (31 - j)) := Lib.hid (by rw [← hT]; exact inv_no x R _ hr)
      rw [hT] at ho r1 r2
      obtain ⟨s1, s2⟩ := mul_bd T T 4294967295 4294967295 (by omega) r2 (by omega) r2
      have s0 := Int.mul_nonneg r1 r1
      simp only [Int.reduceMul] at s2
      clear hT hr s1 HR
      by_cases ht : T * T ≤ x
      · go_wp2
        go_round
        case rel => exact ⟨j + 1, T, by omega, by go_num, by go_num, Lib.hid (by rw [show 32 - (j + 1) = 31 - j by omega]; exact HY.out ht)⟩
        case measure => simp [intOf]; omega
      · go_wp2
        go_round
        case rel => exact ⟨j + 1, R, by omega, by go_num, by go_num, Lib.hid (by rw [show 32 - (j + 1) = 31 - j by omega]; exact HN.out (by omega))⟩
        case measure => simp [intOf]; omega
    · obtain rfl : j = 32 := by omega
      have hr := inv_end x R HR.out
      obtain ⟨q0, q1, q2⟩ := hr
      have q3 : R ≤ 9223372036854775807 := by
        by_cases hc : R ≤ 1
        · omega
        · have := Int.mul_le_mul_of_nonneg_left (show 1 ≤ R by omega) q0
          omega
      have HQ := Lib.hid (show RootOf x R from ⟨q0, q1, q2⟩)
      clear q1 q2 HR
      go_wp2
      go_ret
      exact ⟨R, HQ.out, rfl, rfl⟩

end Go.Proofs.Ytlghgfalkpgghaa.Fix
