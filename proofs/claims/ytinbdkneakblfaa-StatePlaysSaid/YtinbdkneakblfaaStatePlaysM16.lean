/- Texts of the walk, one behind the other. -/
import Derived.Test.YtinbdkneakblfaaStatePlaysM13
import Derived.Test.YtinbdkneakblfaaStatePlaysM15

section
/- Contracts: the document's words, and Bytes. -/
set_option maxRecDepth 100000
set_option linter.unusedVariables false
namespace Go.Proofs.Ytinbdkneakblfaa.Sta
open Go.RowKit Go.Proofs.Ytinbdkneakblfaa.Row Go.Proofs.Ytinbdkneakblfaa.Crc

/-- The first bytes of a number. -/
def wordTo (x : Nat) : Nat → List UInt8
  | 0 => []
  | k + 1 => wordTo x k ++ [UInt8.ofNat (x / 256 ^ k % 256)]
theorem wordTo_4 (x : Nat) : wordTo x 4 = fourL x := by simp [wordTo, fourL]
theorem wordTo_len (x : Nat) : ∀ k, (wordTo x k).length = k
  | 0 => rfl
  | k + 1 => by simp [wordTo, wordTo_len x k]
theorem part_of (b c : Nat) (h : b / 256 = c) : Value.int .i64 ((b : Int) / 256) = Value.int .i64 ((c : Nat) : Int) := by
  rw [← h, show ((b / 256 : Nat) : Int) = (b : Int) / 256 from by omega]

set_option maxHeartbeats 400000 in
theorem refWord_any (x : Int) (w : World) (h1 : -2147483648 ≤ x) (h2 : x ≤ 2147483647) :
    Calls Try.prog 30 #[.int .i64 x] w fun e w' => e = .returned (.string ⟨(wordL x).toArray⟩) ∧ Below w.heap.size w w' := by
  obtain ⟨n, hn⟩ : ∃ n, u32 x = n := ⟨_, rfl⟩
  have hx : n < 4294967296 := by rw [← hn]; exact u32_lt x
  have hw : wordL x = fourL n := by unfold wordL; rw [hn]
  have HN := Lib.hid (show x < 0 → x + 4294967296 = (n : Int) from fun h => by rw [← hn]; unfold u32; omega)
  have HP := Lib.hid (show 0 ≤ x → x = (n : Int) from fun h => by rw [← hn]; unfold u32; omega)
  rw [hw]
  clear hw hn
  go_enter Try.func30, Try.ntmps30
  by_cases hneg : x < 0
  · go_wp2
    rw [HN.out hneg]
    go_loopw [0, 3, 4] (fun q s i w' => ∃ k : Nat, k ≤ 4 ∧ i = .int .i64 k ∧ q = .int .i64 (n / 256 ^ k : Nat) ∧ s = .string ⟨(wordTo n k).toArray⟩ ∧ Below w.heap.size w w') (fun _ _ i _ => 4 - (intOf i).toNat)
    case atStart => exact ⟨0, Nat.zero_le _, rfl, by simp, rfl, Below.refl _ _⟩
    case round =>
      obtain ⟨k, hk, rfl, rfl, rfl, hb⟩ := hrel
      by_cases hk4 : k < 4
      · have hq : n / 256 ^ k < 4294967296 := Nat.lt_of_le_of_lt (Nat.div_le_self _ _) hx
        have hcv := cells_one (n / 256 ^ k) wr
        have HB := Lib.hid (Nat.div_div_eq_div_mul n (256 ^ k) 256)
        have HS : Hid (wordTo n (k + 1) = wordTo n k ++ [UInt8.ofNat (n / 256 ^ k % 256)]) := Lib.hid rfl
        have hl : ¬ 9223372036854775807 < (wordTo n k).length + 1 := by rw [wordTo_len]; omega
        generalize n / 256 ^ k = q at *
        generalize wordTo n k = l at *
        go_wp2
        go_roundw
        case rel => exact ⟨k + 1, by omega, by go_num, by rw [Nat.pow_succ]; exact part_of _ _ HB.out, by rw [HS.out]; exact congrArg Value.string (join_str _ _), hb.alloc hb.size _⟩
        case measure => simp [intOf]; omega
      · obtain rfl : k = 4 := by omega
        have HS := Lib.hid (wordTo_4 n)
        generalize wordTo n 4 = l at *
        go_wp2
        go_ret
        exact ⟨by rw [HS.out]; rfl, hb⟩
  · go_wp2
    rw [HP.out (by omega)]
    go_loopw [0, 3, 4] (fun q s i w' => ∃ k : Nat, k ≤ 4 ∧ i = .int .i64 k ∧ q = .int .i64 (n / 256 ^ k : Nat) ∧ s = .string ⟨(wordTo n k).toArray⟩ ∧ Below w.heap.size w w') (fun _ _ i _ => 4 - (intOf i).toNat)
    case atStart => exact ⟨0, Nat.zero_le _, rfl, by simp, rfl, Below.refl _ _⟩
    case round =>
      obtain ⟨k, hk, rfl, rfl, rfl, hb⟩ := hrel
      by_cases hk4 : k < 4
      · have hq : n / 256 ^ k < 4294967296 := Nat.lt_of_le_of_lt (Nat.div_le_self _ _) hx
        have hcv := cells_one (n / 256 ^ k) wr
        have HB := Lib.hid (Nat.div_div_eq_div_mul n (256 ^ k) 256)
        have HS : Hid (wordTo n (k + 1) = wordTo n k ++ [UInt8.ofNat (n / 256 ^ k % 256)]) := Lib.hid rfl
        have hl : ¬ 9223372036854775807 < (wordTo n k).length + 1 := by rw [wordTo_len]; omega
        generalize n / 256 ^ k = q at *
        generalize wordTo n k = l at *
        go_wp2
        go_roundw
        case rel => exact ⟨k + 1, by omega, by go_num, by rw [Nat.pow_succ]; exact part_of _ _ HB.out, by rw [HS.out]; exact congrArg Value.string (join_str _ _), hb.alloc hb.size _⟩
        case measure => simp [intOf]; omega
      · obtain rfl : k = 4 := by omega
        have HS := Lib.hid (wordTo_4 n)
        generalize wordTo n 4 = l at *
        go_wp2
        go_ret
        exact ⟨by rw [HS.out]; rfl, hb⟩
end Go.Proofs.Ytinbdkneakblfaa.Sta
end
