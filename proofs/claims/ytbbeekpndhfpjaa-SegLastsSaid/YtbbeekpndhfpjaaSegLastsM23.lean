/- Texts of the walk, one behind the other. -/
import Derived.Test.YtbbeekpndhfpjaaSegLastsM21
import Derived.Test.YtbbeekpndhfpjaaSegLastsM22
import Derived.Deep.WholeRow
import Derived.Laws.IdiomStrings

section
/- crc: More, Sum, beside CrF (CrS without Four). -/
namespace Go.Proofs.Ytbbeekpndhfpjaa.Crc
open Go.RowKit
set_option linter.unusedVariables false

theorem bits_not (x : Nat) (h : x < 4294967296) : bits .xor .u32 4294967295 (x : Int) = ((4294967295 - x : Nat) : Int) := by
  rw [show (4294967295 : Int) = ((4294967295 : Nat) : Int) from rfl, u32_xor_nat _ _ (by omega) h]
  exact congrArg (fun n : Nat => (n : Int)) (xor_ones x h)

theorem lookup (W : World) (b y : Nat) (hy : y < 4294967296) (hrow : Hid (W.heap[b]? = some (.cells (tabL 16) 112 (0, 0)))) :
    ∃ z : Nat, z < 4294967296 ∧ W.cell? ⟨b, y % 16, none⟩ = some (.int .u32 (Tn 4 (y % 16) : Nat)) ∧
      bits .xor .u32 ((y : Int) / 16) ((Tn 4 (y % 16) : Nat) : Int) = (z : Int) ∧ Hid (z = Tn 4 y) := by
  have hm : y % 16 < 16 := Nat.mod_lt _ (by omega)
  refine ⟨Tn 4 y, Tn_lt 4 y hy, ?_, ?_, Lib.hid rfl⟩
  · rw [cell_of_row _ _ _ _ _ _ hrow.out, tabL_get 16 _ hm, if_pos hm]
  · rw [show (y : Int) / 16 = ((y / 16 : Nat) : Int) from by omega, u32_xor_nat _ _ (by omega) (Tn_lt 4 _ (by omega)), step4]

set_option maxHeartbeats 400000 in
theorem more_any (x : Nat) (s : ByteArray) (w : World) (hx : x < 4294967296) (hs : s.size ≤ maxLen) :
    Calls Try.prog 59 #[.int .u32 x, .string s] w fun e w' => e = .returned (.int .u32 (moreS x s.data.toList : Nat)) ∧ Below w.heap.size w w' := by
  unfold maxLen at hs
  have hn := bits_not x hx
  have hsg : IntKind.u32.signed = false := rfl
  have hmx : IntKind.u32.max = 4294967295 := by decide
  go_enter Try.func59, Try.ntmps59
  go_wp2_with (first
    | (go_at_call 62; refine (table_any _).mono ?_; rintro e w1 ⟨rfl, hb⟩)
    | refine wpList_store_row rfl 112 _ _ rfl _ (tabL 16) rfl rfl _ _ (heap_alloc_new _ _) (size35 16) (by rw [tabL_size]; rfl) (tabL_one 16) ?_)
  rw [World.setRow_alloc_new]
  have hbW : Below w.heap.size w (w1.alloc (.cells (tabL 16) 112)) := hb.alloc hb.size _
  have hrow := Lib.hid (heap_alloc_new w1 (.cells (tabL 16) 112))
  clear hb hn
  revert hbW hrow
  generalize w1.alloc (.cells (tabL 16) 112) = W
  generalize w1.heap.size = b
  intro hbW hrow
  go_loop [6, 13] (fun r i => ∃ k : Nat, k ≤ s.size ∧ i = .int .i64 k ∧ r = .int .u32 (run (4294967295 - x) (s.data.toList.take k) : Nat)) (fun _ i => s.size - (intOf i).toNat)
  case atStart => exact ⟨0, Nat.zero_le _, rfl, rfl⟩
  case round =>
    obtain ⟨k, hk, rfl, rfl⟩ := hrel
    have hlt := run_lt (s.data.toList.take k) (4294967295 - x) (by omega)
    by_cases hks : k < s.size
    · have hsn := run_snoc (4294967295 - x) (s.data.toList.take k) s[k]
      rw [← take_snoc s k hks] at hsn
      have HS := Lib.hid hsn
      clear hsn
      generalize run (4294967295 - x) (s.data.toList.take k) = r at *
      have hc := byte_lt s[k]
      have e1 := u32_xor_nat r s[k].toNat hlt (by omega)
      have hy := xor_lt32 hlt (show s[k].toNat < 4294967296 by omega)
      generalize hyy : r ^^^ s[k].toNat = y at *
      have HY := Lib.hid hyy
      clear hyy
      obtain ⟨z, hz, c1, e2, HZ⟩ := lookup W b y hy hrow
      obtain ⟨v, hv, c2, e3, HV⟩ := lookup W b z hz hrow
      go_wp2
      go_round
      case rel => exact ⟨k + 1, by omega, by go_num, by rw [HS.out, HV.out, HZ.out, ← HY.out]; unfold byteStep; rw [step44]⟩
      case measure => simp [intOf]; omega
    · obtain rfl : k = s.size := by omega
      have hn := bits_not _ hlt
      have hfin : 4294967295 - run (4294967295 - x) (s.data.toList.take s.size) = moreS x s.data.toList := by
        unfold moreS
        rw [List.take_of_length_le (by simp)]
      have HF := Lib.hid hfin
      clear hfin
      generalize run (4294967295 - x) (s.data.toList.take s.size) = r at *
      go_wp2
      go_ret
      exact ⟨ret_int (by rw [← HF.out]), hbW⟩

/-- A byte array's size as an Int is within maxLen. -/
theorem sum_any (s : ByteArray) (w : World) (hs : s.size ≤ maxLen) :
    Calls Try.prog 51 #[.string s] w fun e w' => e = .returned (.int .u32 (moreS 0 s.data.toList : Nat)) ∧ Below w.heap.size w w' := by
  have HS := Lib.hid hs
  clear hs
  go_enter Try.func51, Try.ntmps51
  go_wp2_with (go_at_call 59; refine (more_any 0 s _ (by omega) HS.out).mono ?_; rintro e w1 ⟨rfl, hb⟩)
  go_ret
  exact ⟨rfl, hb⟩

end Go.Proofs.Ytbbeekpndhfpjaa.Crc
end
