/- Texts of the walk, one behind the other. -/
import Derived.Test.YtbbeekpndhfpjaaRows
import Derived.Test.YtbbeekpndhfpjaaSegLastsM1
import Derived.WalkKit
import Derived.ProofKit
import Derived.OpenShut
import Derived.IntWalk
import Derived.Lib.Hide
import Derived.Laws.BitsAllLaws
import Derived.Laws.Rows

section
/- Contracts of the table of package crc: the closure that fills a cell, and the table. -/
namespace Go.Proofs.Ytbbeekpndhfpjaa.Crc
open Go.RowKit

theorem ret_int {k : IntKind} {a b : Int} (h : a = b) : Ending.returned (.int k a) = .returned (.int k b) := by rw [h]
theorem ret_bool {a b : Bool} (h : a = b) : Ending.returned (.bool a) = .returned (.bool b) := by rw [h]

theorem Tn_succ' (n r : Nat) : Tn (n + 1) r = T (Tn n r) := by rw [Tn_add n 1]; rfl

theorem bits_T (r : Nat) (h : r < 4294967296) : bits .xor .u32 ((r : Int) / 2) ((r : Int) % 2 * 2197175160) = (T r : Nat) := by
  rw [show (r : Int) / 2 = ((r / 2 : Nat) : Int) from by omega, show (r : Int) % 2 * 2197175160 = ((r % 2 * MX : Nat) : Int) from by unfold MX; omega]
  rw [u32_xor_nat _ _ (by omega) (by unfold MX; omega)]
  rfl

theorem fill_any (k b : Nat) (v : Value) (w : World) (hk : k < 16) (hc : w.cell? ⟨b, k, none⟩ = some v) (hf : w.frozen? ⟨b, k, none⟩ = false) :
    Calls Try.prog 63 #[.int .i64 k, .pointer (some ⟨b, 0, none⟩)] w fun e w' => e = .returned (.tuple #[]) ∧ w' = w.setCell ⟨b, k, none⟩ (.int .u32 (Tn 4 k : Nat)) := by
  go_enter Try.func63, Try.ntmps63
  go_wp2
  go_loop [3, 6] (fun r i => ∃ j : Nat, j ≤ 4 ∧ i = .int .i64 j ∧ r = .int .u32 (Tn j k : Nat)) (fun _ i => 4 - (intOf i).toNat)
  case atStart => exact ⟨0, Nat.zero_le _, rfl, rfl⟩
  case round =>
    obtain ⟨j, hj, rfl, rfl⟩ := hrel
    have hlt := Tn_lt j k (by omega)
    by_cases hj4 : j < 4
    · go_wp2
      go_round
      case rel => exact ⟨j + 1, by omega, by go_num, by rw [Tn_succ', bits_T _ hlt]⟩
      case measure => simp [intOf]; omega
    · obtain rfl : j = 4 := by omega
      go_wp2
      go_end0
      exact ⟨rfl, rfl⟩

/-- The table's first n numbers, the others 0. -/
def tabL (n : Nat) : Array Value := Array.ofFn (n := 16) fun i => Value.int .u32 (if i.val < n then (Tn 4 i.val : Nat) else (0 : Nat))

theorem tabL_size (n : Nat) : (tabL n).size = 16 := by unfold tabL; exact Array.size_ofFn

theorem tabL_get (n k : Nat) (hk : k < 16) : (tabL n)[k]? = some (Value.int .u32 (if k < n then (Tn 4 k : Nat) else (0 : Nat))) := by
  unfold tabL
  rw [Array.getElem?_ofFn, dif_pos hk]

theorem tabL_next (k : Nat) (hk : k < 16) : (tabL k).setIfInBounds k (.int .u32 (Tn 4 k : Nat)) = tabL (k + 1) := by
  apply Array.ext_getElem?
  intro i
  by_cases hi : i < 16
  · by_cases e : k = i
    · subst e
      rw [Array.getElem?_setIfInBounds_self_of_lt (by rw [tabL_size]; exact hk), tabL_get _ _ hk, if_pos (by omega)]
    · rw [Array.getElem?_setIfInBounds_ne e, tabL_get _ _ hi, tabL_get _ _ hi]
      by_cases h : i < k
      · rw [if_pos h, if_pos (by omega)]
      · rw [if_neg h, if_neg (by omega)]
  · rw [Array.getElem?_eq_none (by rw [Array.size_setIfInBounds, tabL_size]; omega), Array.getElem?_eq_none (by rw [tabL_size]; omega)]

theorem tabL_zero : tabL 0 = #[.int .u32 0, .int .u32 0, .int .u32 0, .int .u32 0, .int .u32 0, .int .u32 0, .int .u32 0, .int .u32 0, .int .u32 0, .int .u32 0, .int .u32 0, .int .u32 0, .int .u32 0, .int .u32 0, .int .u32 0, .int .u32 0] := by
  kernel_rfl

theorem tabL_one (n : Nat) : (tabL n).all (·.oneCell') = true := by
  rw [Array.all_eq_true]
  intro i hi
  rw [tabL_size] at hi
  have := tabL_get n i hi
  rw [Array.getElem?_eq_getElem (by rw [tabL_size]; exact hi)] at this
  injection this with this
  rw [this]
  rfl

theorem size35 (n : Nat) : (Try.prog.info? 112).map (·.size) = some (tabL n).size := by rw [tabL_size]; kernel_rfl

theorem below_setRow {w w' : World} (h : Below w.heap.size w w') (cs : Array Value) : Below w.heap.size w (w'.setRow w.heap.size cs) :=
  ⟨h.os, h.tape, h.output, by rw [size_setRow]; exact h.size, fun k hk => (setRow_other w' w.heap.size k cs (by omega)).trans (h.block k hk)⟩

/-- What holds of the memory while the table is filled. -/
def TabInv (w w' : World) (k : Nat) : Prop :=
  Below w.heap.size w w' ∧ w'.heap[w.heap.size]? = some (.cells (tabL 0) 112 (0, 0)) ∧ w'.heap[w.heap.size + 1]? = some (.cells (tabL k) 112 (0, 0))

set_option maxHeartbeats 400000 in
theorem table_any (w : World) :
    Calls Try.prog 62 #[] w fun e w' => e = .returned (.agg (tabL 16)) ∧ Below w.heap.size w w' := by
  have hstart : TabInv w ((w.alloc (.cells (tabL 0) 112)).alloc (.cells (tabL 0) 112)) 0 :=
    ⟨((Below.refl _ _).alloc (Nat.le_refl _) _).alloc (by simp) _, heap_alloc2_old _ _ _, heap_alloc2_new _ _ _⟩
  rw [tabL_zero] at hstart
  go_enter Try.func62, Try.ntmps62
  go_wp2
  go_loopw [5] (fun i w' => ∃ k : Nat, k ≤ 16 ∧ i = .int .i64 k ∧ TabInv w w' k) (fun i _ => 16 - (intOf i).toNat)
  case atStart => exact ⟨0, Nat.zero_le _, rfl, hstart⟩
  case round =>
    obtain ⟨k, hk, rfl, hinv⟩ := hrel
    clear hstart
    have hinv0 := hinv
    obtain ⟨hb, h0, h1⟩ := hinv
    have H0 := Lib.hid h0
    have H1 := Lib.hid h1
    clear h0 h1
    by_cases hk16 : k < 16
    · go_wp2_with (go_at_call 63; refine (fill_any k (w.heap.size + 1) _ _ hk16 ((cell_of_row _ _ _ _ _ _ H1.out).trans (tabL_get _ _ hk16)) (frozen_of_row _ _ _ _ _ H1.out)).mono ?_; rintro e w' ⟨rfl, rfl⟩)
      go_roundw
      case rel => exact ⟨k + 1, by omega, by go_num, hb.setCell (by simp) _, (heap_setCell_other _ _ _ _ (by simp)).trans H0.out, by rw [← tabL_next k hk16]; exact heap_setCell_same _ _ _ _ _ _ H1.out⟩
      case measure => simp [intOf]; omega
    · obtain rfl : k = 16 := by omega
      go_wp2_with (first
        | refine wpList_load_row rfl 112 _ rfl (w.heap.size + 1) rfl _ _ (0, 0) _ H1.out Try.underlying112 rfl (size35 16) ?_
        | refine wpList_store_row rfl 112 _ _ rfl w.heap.size (tabL 16) rfl rfl _ _ H0.out (size35 16) (by rw [tabL_size, tabL_size]) (tabL_one 16) ?_)
      exact bodyPost_ret (v := .agg (tabL 16)) (results_cell_row rfl _ _ w.heap.size 112 (tabL 16) (0, 0) _ rfl (setRow_heap _ _ _ _ _ _ H0.out) Try.underlying112 rfl (size35 16)) rfl ⟨rfl, below_setRow hb _⟩
end Go.Proofs.Ytbbeekpndhfpjaa.Crc
end
