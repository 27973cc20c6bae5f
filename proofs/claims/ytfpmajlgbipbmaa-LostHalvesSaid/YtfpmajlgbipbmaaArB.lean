/- AngB beside Row: the window and the table of cosines. -/
import Derived.Test.YtfpmajlgbipbmaaArA
namespace Go.Proofs.Ytfpmajlgbipbmaa.Ang
open Go.RowKit Go.Proofs.Ytfpmajlgbipbmaa.Row
set_option linter.unusedVariables false

theorem winL_zero : rowL 32 winS 0 = #[.int .i64 0, .int .i64 0, .int .i64 0, .int .i64 0, .int .i64 0, .int .i64 0, .int .i64 0, .int .i64 0, .int .i64 0, .int .i64 0, .int .i64 0, .int .i64 0, .int .i64 0, .int .i64 0, .int .i64 0, .int .i64 0, .int .i64 0, .int .i64 0, .int .i64 0, .int .i64 0, .int .i64 0, .int .i64 0, .int .i64 0, .int .i64 0, .int .i64 0, .int .i64 0, .int .i64 0, .int .i64 0, .int .i64 0, .int .i64 0, .int .i64 0, .int .i64 0] := by rw [row_of0]; kernel_rfl

theorem win_size (n : Nat) : (Try.prog.info? 56).map (·.size) = some (rowL 32 winS n).size := by rw [rowL_size]; kernel_rfl

/-- What holds of the memory while the row is filled. -/
def WindowInv (w w' : World) (k : Nat) : Prop :=
  Below w.heap.size w w' ∧ w'.heap[w.heap.size]? = some (.cells (rowL 32 winS 0) 56 (0, 0)) ∧ w'.heap[w.heap.size + 1]? = some (.cells (rowL 32 winS k) 56 (0, 0))

set_option maxRecDepth 100000 in
set_option maxHeartbeats 1000000 in
theorem win_any (w : World) :
    Calls Try.prog 32 #[] w fun e w' => e = .returned (.agg (rowL 32 winS 32)) ∧ Below w.heap.size w w' := by
  have hstart : WindowInv w ((w.alloc (.cells (rowL 32 winS 0) 56)).alloc (.cells (rowL 32 winS 0) 56)) 0 :=
    ⟨((Below.refl _ _).alloc (Nat.le_refl _) _).alloc (by simp) _, heap_alloc2_old _ _ _, heap_alloc2_new _ _ _⟩
  rw [winL_zero] at hstart
  go_enter Try.func32, Try.ntmps32
  go_wp2
  go_loopw [2, 3] (fun _ i w' => ∃ k : Nat, k ≤ 32 ∧ i = .int .i64 k ∧ WindowInv w w' k) (fun _ i _ => 32 - (intOf i).toNat)
  case atStart => exact ⟨0, Nat.zero_le _, rfl, hstart⟩
  case round =>
    obtain ⟨k, hk, rfl, hinv⟩ := hrel
    clear hstart
    obtain ⟨hb, h0, h1⟩ := hinv
    have H0 := Lib.hid h0
    have H1 := Lib.hid h1
    by_cases hk16 : k < 32
    · have hc := (cell_of_row _ _ k _ _ _ h1).trans (rowL_get 32 winS k k hk16)
      have hf := frozen_of_row _ _ k _ _ h1
      clear h0 h1
      go_wp2_with (go_at_call 45; (with_reducible refine (sin_as _ (winS k) _ rfl).mono ?_); rintro e w' ⟨rfl, rfl⟩)
      go_roundw
      case rel => exact ⟨k + 1, by omega, by go_num, hb.setCell (by simp) _, (heap_setCell_other _ _ _ _ (by simp)).trans H0.out, by rw [← rowL_next 32 winS k hk16]; exact heap_setCell_same _ _ _ _ _ _ H1.out⟩
      case measure => simp [intOf]; omega
    · clear h0 h1
      obtain rfl : k = 32 := by omega
      go_wp2_with (first
        | refine wpList_load_row rfl 56 _ rfl (w.heap.size + 1) rfl _ _ (0, 0) _ H1.out Try.underlying56 rfl (win_size 32) ?_
        | refine wpList_store_row rfl 56 _ _ rfl w.heap.size (rowL 32 winS 32) rfl rfl _ _ H0.out (win_size 32) (by rw [rowL_size, rowL_size]) (rowL_one 32 winS 32) ?_)
      exact bodyPost_ret (v := .agg (rowL 32 winS 32)) (results_cell_row rfl _ _ w.heap.size 56 (rowL 32 winS 32) (0, 0) _ rfl (setRow_heap _ _ _ _ _ _ H0.out) Try.underlying56 rfl (win_size 32)) rfl ⟨rfl, below_setRow hb _⟩

def tabS (n : Nat) : Int := cosS n

theorem tab_info : (Try.prog.info? 64).map (·.zero) = some (some (.agg (Array.replicate 128 (.int .i64 0)))) := by kernel_rfl

theorem tab_run (w : World) : (zeroValue 64).run Try.prog w = .ok (.agg (rowL 128 tabS 0)) w := by
  have h := tab_info
  rw [row_of0]
  cases hi : Try.prog.info? 64 with
  | none => rw [hi] at h; cases h
  | some i =>
    rw [hi] at h
    have hz : i.zero = some (.agg (Array.replicate 128 (.int .i64 0))) := by injection h
    simp [zeroValue, typeInfo, hi, hz]

theorem tab_size (n : Nat) : (Try.prog.info? 64).map (·.size) = some (rowL 128 tabS n).size := by rw [rowL_size]; kernel_rfl

/-- What holds of the memory while the row is filled. -/
def TableInv (w w' : World) (k : Nat) : Prop :=
  Below w.heap.size w w' ∧ w'.heap[w.heap.size]? = some (.cells (rowL 128 tabS 0) 64 (0, 0)) ∧ w'.heap[w.heap.size + 1]? = some (.cells (rowL 128 tabS k) 64 (0, 0))

set_option maxRecDepth 100000 in
set_option maxHeartbeats 1000000 in
theorem tab_any (w : World) :
    Calls Try.prog 33 #[] w fun e w' => e = .returned (.agg (rowL 128 tabS 128)) ∧ Below w.heap.size w w' := by
  have hstart : TableInv w ((w.alloc (.cells (rowL 128 tabS 0) 64)).alloc (.cells (rowL 128 tabS 0) 64)) 0 :=
    ⟨((Below.refl _ _).alloc (Nat.le_refl _) _).alloc (by simp) _, heap_alloc2_old _ _ _, heap_alloc2_new _ _ _⟩
  have hz := tab_run
  go_enter Try.func33, Try.ntmps33
  go_wp2
  go_loopw [2, 3] (fun _ i w' => ∃ k : Nat, k ≤ 128 ∧ i = .int .i64 k ∧ TableInv w w' k) (fun _ i _ => 128 - (intOf i).toNat)
  case atStart => exact ⟨0, Nat.zero_le _, rfl, hstart⟩
  case round =>
    obtain ⟨k, hk, rfl, hinv⟩ := hrel
    clear hstart
    obtain ⟨hb, h0, h1⟩ := hinv
    have H0 := Lib.hid h0
    have H1 := Lib.hid h1
    by_cases hk16 : k < 128
    · have hc := (cell_of_row _ _ k _ _ _ h1).trans (rowL_get 128 tabS k k hk16)
      have hf := frozen_of_row _ _ k _ _ h1
      clear h0 h1
      go_wp2_with (go_at_call 46; (with_reducible refine (cos_as _ (tabS k) _ rfl).mono ?_); rintro e w' ⟨rfl, rfl⟩)
      go_roundw
      case rel => exact ⟨k + 1, by omega, by go_num, hb.setCell (by simp) _, (heap_setCell_other _ _ _ _ (by simp)).trans H0.out, by rw [← rowL_next 128 tabS k hk16]; exact heap_setCell_same _ _ _ _ _ _ H1.out⟩
      case measure => simp [intOf]; omega
    · clear h0 h1
      obtain rfl : k = 128 := by omega
      go_wp2_with (first
        | refine wpList_load_row rfl 64 _ rfl (w.heap.size + 1) rfl _ _ (0, 0) _ H1.out Try.underlying64 rfl (tab_size 128) ?_
        | refine wpList_store_row rfl 64 _ _ rfl w.heap.size (rowL 128 tabS 128) rfl rfl _ _ H0.out (tab_size 128) (by rw [rowL_size, rowL_size]) (rowL_one 128 tabS 128) ?_)
      exact bodyPost_ret (v := .agg (rowL 128 tabS 128)) (results_cell_row rfl _ _ w.heap.size 64 (rowL 128 tabS 128) (0, 0) _ rfl (setRow_heap _ _ _ _ _ _ H0.out) Try.underlying64 rfl (tab_size 128)) rfl ⟨rfl, below_setRow hb _⟩
end Go.Proofs.Ytfpmajlgbipbmaa.Ang
