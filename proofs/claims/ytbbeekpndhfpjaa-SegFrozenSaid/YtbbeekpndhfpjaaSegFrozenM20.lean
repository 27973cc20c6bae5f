/- Texts of the walk, one behind the other. -/
import Derived.Test.YtbbeekpndhfpjaaRow
import Derived.Test.YtbbeekpndhfpjaaCrcMath
import Derived.Test.YtbbeekpndhfpjaaSegFrozenM1
import Derived.Laws.BitsAllLaws
import Derived.Laws.Rows
import Derived.Laws.IdiomStrings

section
/- CrcC beside Row, without the table: Four, Number. -/
namespace Go.Proofs.Ytbbeekpndhfpjaa.Crc
open Go.RowKit Go.Proofs.Ytbbeekpndhfpjaa.Row
set_option linter.unusedVariables false

theorem take_snoc (s : ByteArray) (k : Nat) (h : k < s.size) : s.data.toList.take (k + 1) = s.data.toList.take k ++ [s[k]] := by
  rw [List.take_succ_eq_append_getElem (by simpa using h)]; rfl

theorem cells_four (x : Nat) (hx : x < 4294967296) (w : World) : Sem.run Try.prog (convert 52 9 (.slice (some ⟨w.heap.size, 0, none⟩) 4 4))
    (w.alloc (.cells #[.int .u8 ((x : Int) % 256), .int .u8 ((x : Int) / 256 % 256), .int .u8 ((x : Int) / 65536 % 256), .int .u8 ((x : Int) / 16777216)] 5)) =
    .ok (.string ⟨(fourL x).toArray⟩) (w.alloc (.cells #[.int .u8 ((x : Int) % 256), .int .u8 ((x : Int) / 256 % 256), .int .u8 ((x : Int) / 65536 % 256), .int .u8 ((x : Int) / 16777216)] 5)) := by
  have e : (#[.int .u8 ((x : Int) % 256), .int .u8 ((x : Int) / 256 % 256), .int .u8 ((x : Int) / 65536 % 256), .int .u8 ((x : Int) / 16777216)] : Array Value) =
      ((fourL x).map fun c => Value.int .u8 (c.toNat : Int)).toArray := by
    unfold fourL
    simp only [List.map_cons, List.map_nil]
    rw [ofNat_toNat _ (Nat.mod_lt _ (by omega)), ofNat_toNat _ (Nat.mod_lt _ (by omega)), ofNat_toNat _ (Nat.mod_lt _ (by omega)), ofNat_toNat _ (Nat.mod_lt _ (by omega))]
    rw [show (x : Int) / 16777216 = ((x / 16777216 % 256 : Nat) : Int) from by omega]
    simp
  rw [e]
  refine run_convert_bytes_back (P := Try.prog) _ 52 9 5 ⟨w.heap.size, 0, none⟩ 4 (fourL x) Try.underlying52 Try.underlying5 Try.underlying9 ?_
  intro j hj
  rw [Addr.add_lit, cell_of_row _ _ _ _ _ _ (heap_alloc_new _ _)]
  simp [hj]

set_option maxHeartbeats 400000 in
theorem four_any (x : Nat) (w : World) (hx : x < 4294967296) :
    Calls Try.prog 53 #[.int .u32 x] w fun e w' => e = .returned (.string ⟨(fourL x).toArray⟩) ∧ Below w.heap.size w w' := by
  have hcv := cells_four x hx w
  go_enter Try.func53, Try.ntmps53
  go_wp2
  go_ret
  exact ⟨rfl, (Below.refl _ _).alloc (Nat.le_refl _) _⟩

theorem or_next (s : ByteArray) (k : Nat) (hk4 : k < 4) (hks : k < s.size) :
    bits .or .u32 ((num (s.data.toList.take k) : Nat) : Int) ((s[k].toNat : Int) * 2 ^ (8 * k) % 4294967296) = (num (s.data.toList.take (k + 1)) : Nat) := by
  have hc := byte_lt s[k]
  have hl : (s.data.toList.take k).length = k := by rw [List.length_take]; simp; omega
  have hn := num_lt (s.data.toList.take k)
  rw [hl] at hn
  have h1 : 2 ^ (8 * k) * s[k].toNat < 4294967296 := by
    have : 2 ^ (8 * k) ≤ 2 ^ 24 := Nat.pow_le_pow_right (by omega) (by omega)
    have h3 : 2 ^ (8 * k) * s[k].toNat ≤ 2 ^ 24 * 255 := Nat.mul_le_mul this (by omega)
    omega
  have h2 : num (s.data.toList.take k) < 4294967296 := Nat.lt_of_lt_of_le hn (Nat.pow_le_pow_right (n := 2) (by omega) (show 8 * k ≤ 32 by omega))
  have e : (s[k].toNat : Int) * 2 ^ (8 * k) % 4294967296 = ((2 ^ (8 * k) * s[k].toNat : Nat) : Int) := by
    have : ((2 ^ (8 * k) * s[k].toNat : Nat) : Int) = (s[k].toNat : Int) * 2 ^ (8 * k) := by push_cast; rw [Int.mul_comm]
    rw [← this]
    omega
  rw [e, u32_or_nat _ _ h2 h1, or_eq_xor _ _ _ hn, take_snoc s k hks, num_snoc, hl]

theorem number_any (s : ByteArray) (w : World) (hs : s.size ≤ maxLen) :
    Calls Try.prog 39 #[.string s] w fun e w' => e = .returned (.int .u32 (num (s.data.toList.take 4) : Nat)) ∧ w = w' := by
  unfold maxLen at hs
  go_enter Try.func39, Try.ntmps39
  go_wp2
  all_goals
    go_loop [3, 8] (fun r i => ∃ k : Nat, k ≤ 4 ∧ k ≤ s.size ∧ i = .int .i64 k ∧ r = .int .u32 (num (s.data.toList.take k) : Nat)) (fun _ i => 4 - (intOf i).toNat)
    case atStart => exact ⟨0, Nat.zero_le _, Nat.zero_le _, rfl, rfl⟩
    case round =>
      obtain ⟨k, hk, hks', rfl, rfl⟩ := hrel
      by_cases hk4 : k < 4 ∧ k < s.size
      · obtain ⟨hk4, hks⟩ := hk4
        have hc := byte_lt s[k]
        go_wp2
        go_round
        case rel => exact ⟨k + 1, by omega, by omega, by go_num, by rw [or_next s k hk4 hks]⟩
        case measure => simp [intOf]; omega
      · have hfin : num (s.data.toList.take k) = num (s.data.toList.take 4) := by
          by_cases e : k = 4
          · rw [e]
          · rw [List.take_of_length_le (by simp; omega), List.take_of_length_le (by simp; omega)]
        have HF := Lib.hid hfin
        clear hfin
        have hge : ¬ (k : Int) < 4 ∨ ¬ (k : Int) < s.size := by omega
        clear hk4
        go_wp2
        go_ret
        exact ⟨ret_int (by rw [HF.out]), rfl⟩

theorem cells_one (q : Nat) (w : World) : Sem.run Try.prog (convert 52 9 (.slice (some ⟨w.heap.size, 0, none⟩) 1 1))
    (w.alloc (.cells #[.int .u8 ((q : Int) % 256)] 5)) =
    .ok (.string ⟨[UInt8.ofNat (q % 256)].toArray⟩) (w.alloc (.cells #[.int .u8 ((q : Int) % 256)] 5)) := by
  have e : (#[.int .u8 ((q : Int) % 256)] : Array Value) = ([UInt8.ofNat (q % 256)].map fun c => Value.int .u8 (c.toNat : Int)).toArray := by
    simp only [List.map_cons, List.map_nil]
    rw [ofNat_toNat _ (Nat.mod_lt _ (by omega))]
    simp
  rw [e]
  refine run_convert_bytes_back (P := Try.prog) _ 52 9 5 ⟨w.heap.size, 0, none⟩ 1 [UInt8.ofNat (q % 256)] Try.underlying52 Try.underlying5 Try.underlying9 ?_
  intro j hj
  rw [Addr.add_lit, cell_of_row _ _ _ _ _ _ (heap_alloc_new _ _)]
  simp only [List.length_cons, List.length_nil] at hj
  obtain rfl : j = 0 := by omega
  rfl

theorem join_str (l m : List UInt8) : (⟨l.toArray⟩ : ByteArray) ++ (⟨m.toArray⟩ : ByteArray) = ⟨(l ++ m).toArray⟩ := by
  apply ByteArray.ext
  rw [ByteArray.data_append]
  simp
end Go.Proofs.Ytbbeekpndhfpjaa.Crc
end
