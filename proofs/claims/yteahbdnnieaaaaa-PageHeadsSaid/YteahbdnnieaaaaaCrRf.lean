/- Contracts of the document's own Sum and Four (spoolref02), beside Row (CrcRef over CrF). -/
import Derived.Test.YteahbdnnieaaaaaCrF
namespace Go.Proofs.Yteahbdnnieaaaaa.Crc
open Go.RowKit

theorem ref_yes (q b : Nat) (hq : q < 4294967296) (h : (((q : Int) + (b : Int)) % 2 == 1) = true) : bits .xor .u32 ((q : Int) / 2) 2197175160 = (refBit q b : Nat) := by
  have h1 : ((q : Int) + (b : Int)) % 2 = 1 := beq_iff_eq.1 h
  have h2 : (q % 2 + b % 2) % 2 = 1 := by omega
  unfold refBit
  rw [h2, Nat.one_mul, show (q : Int) / 2 = ((q / 2 : Nat) : Int) from by omega, show (2197175160 : Int) = ((MX : Nat) : Int) from rfl, u32_xor_nat _ _ (by omega) (by unfold MX; omega)]

theorem ref_no (q b : Nat) (h : (((q : Int) + (b : Int)) % 2 == 1) = false) : ((q : Int) / 2) = (refBit q b : Nat) := by
  have h1 : ((q : Int) + (b : Int)) % 2 ≠ 1 := by simpa using h
  have h2 : (q % 2 + b % 2) % 2 = 0 := by omega
  unfold refBit
  rw [h2, Nat.zero_mul, Nat.xor_zero]
  omega

theorem half_of (b c : Nat) (h : b / 2 = c) : Value.int .u32 ((b : Int) / 2) = Value.int .u32 ((c : Nat) : Int) := by
  rw [← h, show ((b / 2 : Nat) : Int) = (b : Int) / 2 from by omega]

set_option maxHeartbeats 400000 in
theorem refSum_any (s : ByteArray) (w : World) (hs : s.size ≤ maxLen) :
    Calls Try.prog 15 #[.string s] w fun e w' => e = .returned (.int .u32 (moreS 0 s.data.toList : Nat)) ∧ w = w' := by
  unfold maxLen at hs
  go_enter Try.func15, Try.ntmps15
  go_wp2
  go_loop [3, 4] (fun r i => ∃ k : Nat, k ≤ s.size ∧ i = .int .i64 k ∧ r = .int .u32 (run 4294967295 (s.data.toList.take k) : Nat)) (fun _ i => s.size - (intOf i).toNat)
  case atStart => exact ⟨0, Nat.zero_le _, rfl, rfl⟩
  case round =>
    obtain ⟨k, hk, rfl, rfl⟩ := hrel
    have hlt := run_lt (s.data.toList.take k) 4294967295 (by omega)
    by_cases hks : k < s.size
    · have hsn := run_snoc 4294967295 (s.data.toList.take k) s[k]
      rw [← take_snoc s k hks, ← refBits_byte] at hsn
      have HS := Lib.hid hsn
      clear hsn
      generalize run 4294967295 (s.data.toList.take k) = r at *
      have hc := byte_lt s[k]
      go_wp2
      go_loop [3, 5, 6] (fun q b i => ∃ n : Nat, n ≤ 8 ∧ i = .int .i64 n ∧ q = .int .u32 (refBits n r s[k].toNat : Nat) ∧ b = .int .u32 (s[k].toNat / 2 ^ n : Nat)) (fun _ _ i => 8 - (intOf i).toNat)
      case atStart => exact ⟨0, Nat.zero_le _, rfl, rfl, by simp⟩
      case round =>
        obtain ⟨n, hn, rfl, rfl, rfl⟩ := hrel
        have hq := refBits_lt n r s[k].toNat hlt
        have hb : s[k].toNat / 2 ^ n < 256 := Nat.lt_of_le_of_lt (Nat.div_le_self _ _) hc
        by_cases hn8 : n < 8
        · have HN := Lib.hid (refBits_snoc n r s[k].toNat)
          have HB := Lib.hid (Nat.div_div_eq_div_mul s[k].toNat (2 ^ n) 2)
          generalize refBits n r s[k].toNat = q at *
          generalize s[k].toNat / 2 ^ n = b at *
          go_wp2
          all_goals
            go_round
            case rel => exact ⟨n + 1, by omega, by go_num, by first | rw [HN.out, ref_yes q b hq ‹_›] | rw [HN.out, ref_no q b ‹_›], by rw [Nat.pow_succ]; exact half_of _ _ HB.out⟩
            case measure => simp [intOf]; omega
        · obtain rfl : n = 8 := by omega
          go_wp2
          go_round
          case rel => exact ⟨k + 1, by omega, by go_num, by rw [HS.out]⟩
          case measure => simp [intOf]; omega
    · obtain rfl : k = s.size := by omega
      have hfin : 4294967295 - run 4294967295 (s.data.toList.take s.size) = moreS 0 s.data.toList := by
        unfold moreS
        rw [List.take_of_length_le (by simp)]
      have HF := Lib.hid hfin
      clear hfin
      generalize run 4294967295 (s.data.toList.take s.size) = r at *
      go_wp2
      go_ret
      exact ⟨by rw [show ((moreS 0 s.data.toList : Nat) : Int) = 4294967295 - (r : Int) from by rw [← HF.out]; omega]; rfl, rfl⟩

theorem part_of (b c : Nat) (h : b / 256 = c) : Value.int .u32 ((b : Int) / 256) = Value.int .u32 ((c : Nat) : Int) := by
  rw [← h, show ((b / 256 : Nat) : Int) = (b : Int) / 256 from by omega]

/-- What is left of x, and the bytes so far. -/
def fourTo (x : Nat) : Nat → List UInt8
  | 0 => []
  | k + 1 => fourTo x k ++ [UInt8.ofNat (x / 256 ^ k % 256)]

theorem fourTo_4 (x : Nat) : fourTo x 4 = fourL x := by simp [fourTo, fourL]
theorem fourTo_len (x : Nat) : ∀ k, (fourTo x k).length = k
  | 0 => rfl
  | k + 1 => by simp [fourTo, fourTo_len x k]

set_option maxHeartbeats 400000 in
theorem refFour_any (x : Nat) (w : World) (hx : x < 4294967296) :
    Calls Try.prog 14 #[.int .u32 x] w fun e w' => e = .returned (.string ⟨(fourL x).toArray⟩) ∧ Below w.heap.size w w' := by
  go_enter Try.func14, Try.ntmps14
  go_wp2
  go_loopw [0, 3, 4] (fun q s i w' => ∃ k : Nat, k ≤ 4 ∧ i = .int .i64 k ∧ q = .int .u32 (x / 256 ^ k : Nat) ∧ s = .string ⟨(fourTo x k).toArray⟩ ∧ Below w.heap.size w w') (fun _ _ i _ => 4 - (intOf i).toNat)
  case atStart => exact ⟨0, Nat.zero_le _, rfl, by simp, rfl, Below.refl _ _⟩
  case round =>
    obtain ⟨k, hk, rfl, rfl, rfl, hb⟩ := hrel
    by_cases hk4 : k < 4
    · have hq : x / 256 ^ k < 4294967296 := Nat.lt_of_le_of_lt (Nat.div_le_self _ _) hx
      have hcv := cells_one (x / 256 ^ k) wr
      have HB := Lib.hid (Nat.div_div_eq_div_mul x (256 ^ k) 256)
      have HS : Hid (fourTo x (k + 1) = fourTo x k ++ [UInt8.ofNat (x / 256 ^ k % 256)]) := Lib.hid rfl
      have hl : ¬ 9223372036854775807 < (fourTo x k).length + 1 := by rw [fourTo_len]; omega
      generalize x / 256 ^ k = q at *
      generalize fourTo x k = l at *
      go_wp2
      go_roundw
      case rel => exact ⟨k + 1, by omega, by go_num, by rw [Nat.pow_succ]; exact part_of _ _ HB.out, by rw [HS.out]; exact congrArg Value.string (join_str _ _), hb.alloc hb.size _⟩
      case measure => simp [intOf]; omega
    · obtain rfl : k = 4 := by omega
      have HS := Lib.hid (fourTo_4 x)
      generalize fourTo x 4 = l at *
      go_wp2
      go_ret
      exact ⟨by rw [← HS.out]; rfl, hb⟩
end Go.Proofs.Yteahbdnnieaaaaa.Crc
