/- Texts of the walk, one behind the other. -/
import Derived.Test.YtfohinlldchdpaaGreatDoorEncPlaysM1
import Derived.Lib.BitFns
import Derived.Lib.Walk

section
/- Contracts of bits.Len64, bits.Len and fix.Length. -/
namespace Go.Proofs.YtfohinlldchdpaaGreatDoor.Fix
open Go.RowKit
set_option linter.unusedVariables false

theorem ret_int {k : IntKind} {a b : Int} (h : a = b) : Ending.returned (.int k a) = .returned (.int k b) := by rw [h]

theorem ret_bool {a b : Bool} (h : a = b) : Ending.returned (.bool a) = .returned (.bool b) := by rw [h]

/-- The end of each of Len64's ways: y is x without its last k digits. -/
theorem len_end (x y : Int) (k : Nat) (h1 : 0 ≤ x) (h2 : x ≤ 18446744073709551615) (hk : 2 ^ k ≤ x.toNat) (hy : y.toNat = x.toNat / 2 ^ k) (y1 : 0 ≤ y) (y2 : y ≤ 255) :
    (k : Int) + Lib.len8 y = Lib.bitLen x.toNat ∧ 0 ≤ Lib.len8 y ∧ Lib.len8 y ≤ 8 := by
  rw [Lib.len8_of y y1 y2]
  have l := Lib.bitLen_le8' y y1 y2
  have s := Lib.bitLen_shift k x.toNat hk (by omega)
  rw [← hy] at s
  omega

set_option maxRecDepth 100000 in
theorem len64_111 (x : Int) (w : World) (h1 : 0 ≤ x) (h2 : x ≤ 18446744073709551615) (t1 : 4294967296 ≤ x) (t2 : 65536 ≤ x / 4294967296) (t3 : 256 ≤ x / 4294967296 / 65536) :
    Calls Tryz.prog 154 #[.int .u64 x] w fun e w' => e = .returned (.int .i64 (Lib.bitLen x.toNat)) ∧ w = w' := by
  have b1 : 0 ≤ x / 4294967296 / 65536 / 256 := by omega
  have b2 : x / 4294967296 / 65536 / 256 ≤ 255 := by omega
  obtain ⟨l1, l2, l3⟩ := len_end x (x / 4294967296 / 65536 / 256) 56 h1 h2 (by omega) (by omega) b1 b2
  have L1 := Lib.hid l1
  clear l1
  go_enter Tryz.func154, Tryz.ntmps154
  go_wp2
  go_ret
  exact ⟨ret_int L1.out, rfl⟩

set_option maxRecDepth 100000 in
theorem len64_110 (x : Int) (w : World) (h1 : 0 ≤ x) (h2 : x ≤ 18446744073709551615) (t1 : 4294967296 ≤ x) (t2 : 65536 ≤ x / 4294967296) (t3 : x / 4294967296 / 65536 < 256) :
    Calls Tryz.prog 154 #[.int .u64 x] w fun e w' => e = .returned (.int .i64 (Lib.bitLen x.toNat)) ∧ w = w' := by
  have b1 : 0 ≤ x / 4294967296 / 65536 := by omega
  have b2 : x / 4294967296 / 65536 ≤ 255 := by omega
  obtain ⟨l1, l2, l3⟩ := len_end x (x / 4294967296 / 65536) 48 h1 h2 (by omega) (by omega) b1 b2
  have L1 := Lib.hid l1
  clear l1
  go_enter Tryz.func154, Tryz.ntmps154
  go_wp2
  go_ret
  exact ⟨ret_int L1.out, rfl⟩

set_option maxRecDepth 100000 in
theorem len64_101 (x : Int) (w : World) (h1 : 0 ≤ x) (h2 : x ≤ 18446744073709551615) (t1 : 4294967296 ≤ x) (t2 : x / 4294967296 < 65536) (t3 : 256 ≤ x / 4294967296) :
    Calls Tryz.prog 154 #[.int .u64 x] w fun e w' => e = .returned (.int .i64 (Lib.bitLen x.toNat)) ∧ w = w' := by
  have b1 : 0 ≤ x / 4294967296 / 256 := by omega
  have b2 : x / 4294967296 / 256 ≤ 255 := by omega
  obtain ⟨l1, l2, l3⟩ := len_end x (x / 4294967296 / 256) 40 h1 h2 (by omega) (by omega) b1 b2
  have L1 := Lib.hid l1
  clear l1
  go_enter Tryz.func154, Tryz.ntmps154
  go_wp2
  go_ret
  exact ⟨ret_int L1.out, rfl⟩

set_option maxRecDepth 100000 in
theorem len64_100 (x : Int) (w : World) (h1 : 0 ≤ x) (h2 : x ≤ 18446744073709551615) (t1 : 4294967296 ≤ x) (t2 : x / 4294967296 < 65536) (t3 : x / 4294967296 < 256) :
    Calls Tryz.prog 154 #[.int .u64 x] w fun e w' => e = .returned (.int .i64 (Lib.bitLen x.toNat)) ∧ w = w' := by
  have b1 : 0 ≤ x / 4294967296 := by omega
  have b2 : x / 4294967296 ≤ 255 := by omega
  obtain ⟨l1, l2, l3⟩ := len_end x (x / 4294967296) 32 h1 h2 (by omega) (by omega) b1 b2
  have L1 := Lib.hid l1
  clear l1
  go_enter Tryz.func154, Tryz.ntmps154
  go_wp2
  go_ret
  exact ⟨ret_int L1.out, rfl⟩

set_option maxRecDepth 100000 in
theorem len64_011 (x : Int) (w : World) (h1 : 0 ≤ x) (h2 : x ≤ 18446744073709551615) (t1 : x < 4294967296) (t2 : 65536 ≤ x) (t3 : 256 ≤ x / 65536) :
    Calls Tryz.prog 154 #[.int .u64 x] w fun e w' => e = .returned (.int .i64 (Lib.bitLen x.toNat)) ∧ w = w' := by
  have b1 : 0 ≤ x / 65536 / 256 := by omega
  have b2 : x / 65536 / 256 ≤ 255 := by omega
  obtain ⟨l1, l2, l3⟩ := len_end x (x / 65536 / 256) 24 h1 h2 (by omega) (by omega) b1 b2
  have L1 := Lib.hid l1
  clear l1
  go_enter Tryz.func154, Tryz.ntmps154
  go_wp2
  go_ret
  exact ⟨ret_int L1.out, rfl⟩

set_option maxRecDepth 100000 in
theorem len64_010 (x : Int) (w : World) (h1 : 0 ≤ x) (h2 : x ≤ 18446744073709551615) (t1 : x < 4294967296) (t2 : 65536 ≤ x) (t3 : x / 65536 < 256) :
    Calls Tryz.prog 154 #[.int .u64 x] w fun e w' => e = .returned (.int .i64 (Lib.bitLen x.toNat)) ∧ w = w' := by
  have b1 : 0 ≤ x / 65536 := by omega
  have b2 : x / 65536 ≤ 255 := by omega
  obtain ⟨l1, l2, l3⟩ := len_end x (x / 65536) 16 h1 h2 (by omega) (by omega) b1 b2
  have L1 := Lib.hid l1
  clear l1
  go_enter Tryz.func154, Tryz.ntmps154
  go_wp2
  go_ret
  exact ⟨ret_int L1.out, rfl⟩

set_option maxRecDepth 100000 in
theorem len64_001 (x : Int) (w : World) (h1 : 0 ≤ x) (h2 : x ≤ 18446744073709551615) (t1 : x < 4294967296) (t2 : x < 65536) (t3 : 256 ≤ x) :
    Calls Tryz.prog 154 #[.int .u64 x] w fun e w' => e = .returned (.int .i64 (Lib.bitLen x.toNat)) ∧ w = w' := by
  have b1 : 0 ≤ x / 256 := by omega
  have b2 : x / 256 ≤ 255 := by omega
  obtain ⟨l1, l2, l3⟩ := len_end x (x / 256) 8 h1 h2 (by omega) (by omega) b1 b2
  have L1 := Lib.hid l1
  clear l1
  go_enter Tryz.func154, Tryz.ntmps154
  go_wp2
  go_ret
  exact ⟨ret_int L1.out, rfl⟩

set_option maxRecDepth 100000 in
theorem len64_000 (x : Int) (w : World) (h1 : 0 ≤ x) (h2 : x ≤ 18446744073709551615) (t1 : x < 4294967296) (t2 : x < 65536) (t3 : x < 256) :
    Calls Tryz.prog 154 #[.int .u64 x] w fun e w' => e = .returned (.int .i64 (Lib.bitLen x.toNat)) ∧ w = w' := by
  have b1 : 0 ≤ x := by omega
  have b2 : x ≤ 255 := by omega
  have L1 := Lib.hid (Lib.len8_of x b1 b2)
  have l2 : 0 ≤ Lib.len8 x := by rw [L1.out]; omega
  have l3 : Lib.len8 x ≤ 8 := by rw [L1.out]; exact Int.ofNat_le.mpr (Lib.bitLen_le8' x b1 b2)
  go_enter Tryz.func154, Tryz.ntmps154
  go_wp2
  go_ret
  exact ⟨ret_int L1.out, rfl⟩

theorem len64_any (x : Int) (w : World) (h1 : 0 ≤ x) (h2 : x ≤ 18446744073709551615) :
    Calls Tryz.prog 154 #[.int .u64 x] w fun e w' => e = .returned (.int .i64 (Lib.bitLen x.toNat)) ∧ w = w' := by
  by_cases a : 4294967296 ≤ x
  · by_cases b : 65536 ≤ x / 4294967296
    · by_cases c : 256 ≤ x / 4294967296 / 65536
      · exact len64_111 x w h1 h2 a b c
      · exact len64_110 x w h1 h2 a b (by omega)
    · by_cases c : 256 ≤ x / 4294967296
      · exact len64_101 x w h1 h2 a (by omega) c
      · exact len64_100 x w h1 h2 a (by omega) (by omega)
  · by_cases b : 65536 ≤ x
    · by_cases c : 256 ≤ x / 65536
      · exact len64_011 x w h1 h2 (by omega) b c
      · exact len64_010 x w h1 h2 (by omega) b (by omega)
    · by_cases c : 256 ≤ x
      · exact len64_001 x w h1 h2 (by omega) (by omega) c
      · exact len64_000 x w h1 h2 (by omega) (by omega) (by omega)

theorem len_any (x : Int) (w : World) (h1 : 0 ≤ x) (h2 : x ≤ 18446744073709551615) :
    Calls Tryz.prog 108 #[.int .u64 x] w fun e w' => e = .returned (.int .i64 (Lib.bitLen x.toNat)) ∧ w = w' := by
  go_enter Tryz.func108, Tryz.ntmps108
  go_wp2_with (go_at_call 154; refine (len64_any _ _ (by omega) (by omega)).mono ?_; rintro e w' ⟨rfl, rfl⟩)
  go_ret
  exact ⟨rfl, rfl⟩

theorem len_as (x : Int) (n : Nat) (w : World) (h1 : 0 ≤ x) (h2 : x ≤ 18446744073709551615) (h : x.toNat = n) :
    Calls Tryz.prog 108 #[.int .u64 x] w fun e w' => e = .returned (.int .i64 (Lib.bitLen n)) ∧ w = w' := by
  subst h; exact len_any x w h1 h2

theorem wrap_min : IntKind.u64.wrap (wrap64 9223372036854775808) = 9223372036854775808 := by decide +kernel

theorem len_min (x : Int) (w : World) (h : x = 9223372036854775808) :
    Calls Tryz.prog 108 #[.int .u64 x] w fun e w' => e = .returned (.int .i64 (Lib.bitLen 9223372036854775808)) ∧ w = w' := by
  subst h; exact len_as _ _ w (by omega) (by omega) (by omega)

theorem length_any (x : Int) (w : World) (h1 : -9223372036854775808 ≤ x) (h2 : x ≤ 9223372036854775807) :
    Calls Tryz.prog 62 #[.int .i64 x] w fun e w' => e = .returned (.int .i64 (Lib.bitLen x.natAbs)) ∧ w = w' := by
  by_cases h0 : x < 0
  · by_cases hm : x = -9223372036854775808
    · subst hm
      clear h0 h1 h2
      go_enter Tryz.func62, Tryz.ntmps62
      go_wp2_with (go_at_call 108; refine (len_min _ _ wrap_min).mono ?_; rintro e w' ⟨rfl, rfl⟩)
      go_ret
      exact ⟨rfl, rfl⟩
    · have h3 : -9223372036854775807 ≤ x := by omega
      clear h1 hm
      go_enter Tryz.func62, Tryz.ntmps62
      go_wp2_with (go_at_call 108; refine (len_as _ x.natAbs _ (by omega) (by omega) (by omega)).mono ?_; rintro e w' ⟨rfl, rfl⟩)
      go_ret
      exact ⟨rfl, rfl⟩
  · have h3 : 0 ≤ x := by omega
    clear h1 h0
    go_enter Tryz.func62, Tryz.ntmps62
    go_wp2_with (go_at_call 108; refine (len_as _ x.natAbs _ (by omega) (by omega) (by omega)).mono ?_; rintro e w' ⟨rfl, rfl⟩)
    go_ret
    exact ⟨rfl, rfl⟩
end Go.Proofs.YtfohinlldchdpaaGreatDoor.Fix
end
