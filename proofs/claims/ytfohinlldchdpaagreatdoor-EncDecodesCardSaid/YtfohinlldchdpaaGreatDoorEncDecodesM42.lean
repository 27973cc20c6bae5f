/- Texts of the walk, one behind the other. -/
import Derived.Test.YtfohinlldchdpaaGreatDoorEncDecodesM7
import Derived.Test.YtfohinlldchdpaaGreatDoorEncDecodesM6

section
/- MdRef beside Row: the document's Pow, Cut, Shift. -/
namespace Go.Proofs.YtfohinlldchdpaaGreatDoor.Md
open Go.RowKit Go.Proofs.YtfohinlldchdpaaGreatDoor.Row Go.Proofs.YtfohinlldchdpaaGreatDoor.Ang
set_option linter.unusedVariables false

theorem pow_bd {k m : Nat} (h : k ≤ m) : (1 : Int) ≤ 2 ^ k ∧ (2 : Int) ^ k ≤ 2 ^ m := by
  have h1 : 1 ≤ 2 ^ k := Nat.one_le_two_pow
  have h2 : 2 ^ k ≤ 2 ^ m := Nat.pow_le_pow_right (by omega) h
  exact ⟨by exact_mod_cast h1, by exact_mod_cast h2⟩

theorem pow_any (n : Int) (w : World) (h1 : 0 ≤ n) (h2 : n ≤ 62) :
    Calls Tryz.prog 99 #[.int .i64 n] w fun e w' => e = .returned (.int .i64 (2 ^ n.toNat)) ∧ w = w' := by
  go_enter Tryz.func99, Tryz.ntmps99
  go_wp2
  go_loop [3, 4] (fun p i => ∃ k : Nat, (k : Int) ≤ n ∧ i = .int .i64 k ∧ p = .int .i64 (2 ^ k)) (fun _ i => n.toNat - (intOf i).toNat)
  case atStart => exact ⟨0, by omega, rfl, rfl⟩
  case round =>
    obtain ⟨k, hk, rfl, rfl⟩ := hrel
    by_cases hlt : (k : Int) < n
    · obtain ⟨hp, hq⟩ := pow_bd (show k ≤ 61 by omega)
      simp only [Int.reducePow] at hq
      go_wp2
      go_round
      case rel => exact ⟨k + 1, by omega, by go_num, by rw [Int.pow_succ, Int.mul_comm]⟩
      case measure => simp [intOf]; omega
    · go_wp2
      go_ret
      exact ⟨ret_int (by rw [show n.toNat = k by omega]), rfl⟩

theorem pow_as (n p : Int) (w : World) (h1 : 0 ≤ n) (h2 : n ≤ 62) (h : 2 ^ n.toNat = p) :
    Calls Tryz.prog 99 #[.int .i64 n] w fun e w' => e = .returned (.int .i64 p) ∧ w = w' := by
  subst h; exact pow_any n w h1 h2

theorem refCut_any (x : Int) (w : World) :
    Calls Tryz.prog 54 #[.int .i64 x, .int .i64 32] w fun e w' => e = .returned (.int .i64 (ct x)) ∧ w = w' := by
  by_cases c1 : x < -2147483648
  · go_enter Tryz.func54, Tryz.ntmps54
    go_wp2_with (go_at_call 99; (with_reducible refine (pow_as 31 2147483648 _ (by omega) (by omega) (by decide)).mono ?_); rintro e w' ⟨rfl, rfl⟩)
    go_ret
    exact ⟨ret_int (by unfold ct; omega), rfl⟩
  · by_cases c2 : 2147483647 < x
    · go_enter Tryz.func54, Tryz.ntmps54
      go_wp2_with (go_at_call 99; (with_reducible refine (pow_as 31 2147483648 _ (by omega) (by omega) (by decide)).mono ?_); rintro e w' ⟨rfl, rfl⟩)
      go_ret
      exact ⟨ret_int (by unfold ct; omega), rfl⟩
    · go_enter Tryz.func54, Tryz.ntmps54
      go_wp2_with (go_at_call 99; (with_reducible refine (pow_as 31 2147483648 _ (by omega) (by omega) (by decide)).mono ?_); rintro e w' ⟨rfl, rfl⟩)
      go_ret
      exact ⟨ret_int (by unfold ct; omega), rfl⟩

theorem refCut_as (x p : Int) (w : World) (h : ct x = p) :
    Calls Tryz.prog 54 #[.int .i64 x, .int .i64 32] w fun e w' => e = .returned (.int .i64 p) ∧ w = w' := by
  subst h; exact refCut_any x w

theorem refShift_15 (x r : Int) (w : World) (h1 : -1099511627776 ≤ x) (h2 : x ≤ 1099511627776) (h : near x = r) :
    Calls Tryz.prog 94 #[.int .i64 x, .int .i64 15] w fun e w' => e = .returned (.int .i64 r) ∧ w = w' := by
  subst h
  go_enter Tryz.func94, Tryz.ntmps94
  go_wp2_with (first
    | (go_at_call 99; (with_reducible refine (pow_as 14 16384 _ (by omega) (by omega) (by decide)).mono ?_); rintro e w' ⟨rfl, rfl⟩)
    | (go_at_call 99; (with_reducible refine (pow_as 15 32768 _ (by omega) (by omega) (by decide)).mono ?_); rintro e w' ⟨rfl, rfl⟩)
    | (go_at_call 144; refine (down_any _ _ _ (by omega) (by omega) (by omega) (by omega)).mono ?_; rintro e w' ⟨rfl, rfl⟩))
  go_ret
  exact ⟨rfl, rfl⟩

theorem refShift_16 (x r : Int) (w : World) (h1 : -1099511627776 ≤ x) (h2 : x ≤ 1099511627776) (h : nr16 x = r) :
    Calls Tryz.prog 94 #[.int .i64 x, .int .i64 16] w fun e w' => e = .returned (.int .i64 r) ∧ w = w' := by
  subst h
  go_enter Tryz.func94, Tryz.ntmps94
  go_wp2_with (first
    | (go_at_call 99; (with_reducible refine (pow_as 15 32768 _ (by omega) (by omega) (by decide)).mono ?_); rintro e w' ⟨rfl, rfl⟩)
    | (go_at_call 99; (with_reducible refine (pow_as 16 65536 _ (by omega) (by omega) (by decide)).mono ?_); rintro e w' ⟨rfl, rfl⟩)
    | (go_at_call 144; refine (down_any _ _ _ (by omega) (by omega) (by omega) (by omega)).mono ?_; rintro e w' ⟨rfl, rfl⟩))
  go_ret
  exact ⟨rfl, rfl⟩

theorem refShift_17 (x r : Int) (w : World) (h1 : -1099511627776 ≤ x) (h2 : x ≤ 1099511627776) (h : nr17 x = r) :
    Calls Tryz.prog 94 #[.int .i64 x, .int .i64 17] w fun e w' => e = .returned (.int .i64 r) ∧ w = w' := by
  subst h
  go_enter Tryz.func94, Tryz.ntmps94
  go_wp2_with (first
    | (go_at_call 99; (with_reducible refine (pow_as 16 65536 _ (by omega) (by omega) (by decide)).mono ?_); rintro e w' ⟨rfl, rfl⟩)
    | (go_at_call 99; (with_reducible refine (pow_as 17 131072 _ (by omega) (by omega) (by decide)).mono ?_); rintro e w' ⟨rfl, rfl⟩)
    | (go_at_call 144; refine (down_any _ _ _ (by omega) (by omega) (by omega) (by omega)).mono ?_; rintro e w' ⟨rfl, rfl⟩))
  go_ret
  exact ⟨rfl, rfl⟩
end Go.Proofs.YtfohinlldchdpaaGreatDoor.Md
end

section
/- MdRef2 beside Row: the document's Held, Table. -/
namespace Go.Proofs.YtfohinlldchdpaaGreatDoor.Md
open Go.RowKit Go.Proofs.YtfohinlldchdpaaGreatDoor.Row Go.Proofs.YtfohinlldchdpaaGreatDoor.Ang
set_option linter.unusedVariables false

set_option maxHeartbeats 400000 in
theorem refHeld_yes (T : Array Value) (f : Nat → Int) (hT : IsRow 16 f T) (hf : Le 1048576 f) (w : World) :
    Calls Tryz.prog 92 #[.agg T] w fun e w' => e = .returned (.bool true) ∧ Below w.heap.size w w' := by
  have HT := Lib.hid hT
  have HF := Lib.hid hf
  have H0 := Lib.hid (At.new w T 22)
  clear hT hf
  go_enter Tryz.func92, Tryz.ntmps92
  go_wp2
  go_loop [3] (fun i => ∃ k : Nat, k ≤ 16 ∧ i = .int .i64 k) (fun i => 16 - (intOf i).toNat)
  case atStart => exact ⟨0, Nat.zero_le _, rfl⟩
  case round =>
    obtain ⟨k, hk, rfl⟩ := hrel
    by_cases hk16 : k < 16
    · have hc := HT.out.cell H0.out k hk16
      obtain ⟨b1, b2⟩ := le_ab (HF.out k hk16)
      obtain ⟨x, hx⟩ : ∃ x, f k = x := ⟨_, rfl⟩
      rw [hx] at hc b1 b2
      clear hx
      have k1 : (k : Int) < 16 := by omega
      go_wp2
      go_round
      case rel => exact ⟨k + 1, by omega, by go_num⟩
      case measure => simp [intOf]; omega
    · go_wp2
      go_ret
      exact ⟨rfl, (Below.refl _ _).alloc (Nat.le_refl _) _⟩

set_option maxHeartbeats 400000 in
theorem refHeld_no (T : Array Value) (f : Nat → Int) (hT : IsRow 16 f T) (hf : ¬ Le 1048576 f) (w : World) :
    Calls Tryz.prog 92 #[.agg T] w fun e w' => e = .returned (.bool false) ∧ Below w.heap.size w w' := by
  obtain ⟨j, hj, hbad, hpre⟩ := first_bad hf
  have HT := Lib.hid hT
  have HF := Lib.hid hpre
  have HB := Lib.hid hbad
  have H0 := Lib.hid (At.new w T 22)
  clear hT hf hpre hbad
  go_enter Tryz.func92, Tryz.ntmps92
  go_wp2
  go_loop [3] (fun i => ∃ k : Nat, k ≤ j ∧ i = .int .i64 k) (fun i => 16 - (intOf i).toNat)
  case atStart => exact ⟨0, Nat.zero_le _, rfl⟩
  case round =>
    obtain ⟨k, hk, rfl⟩ := hrel
    have hc := HT.out.cell H0.out k (by omega)
    obtain ⟨x, hx⟩ : ∃ x, f k = x := ⟨_, rfl⟩
    rw [hx] at hc
    have k1 : (k : Int) < 16 := by omega
    by_cases hkj : k < j
    · obtain ⟨b1, b2⟩ := le_ab (HF.out k hkj)
      rw [hx] at b1 b2
      clear hx
      go_wp2
      go_round
      case rel => exact ⟨k + 1, by omega, by go_num⟩
      case measure => simp [intOf]; omega
    · obtain rfl : k = j := by omega
      have hb : x < -1048576 ∨ (-1048576 ≤ x ∧ 1048576 < x) := by
        have := HB.out
        rw [hx] at this
        unfold ab at this
        omega
      clear hx
      rcases hb with hb | ⟨hb1, hb2⟩
      · go_wp2
        go_ret
        exact ⟨rfl, (Below.refl _ _).alloc (Nat.le_refl _) _⟩
      · go_wp2
        go_ret
        exact ⟨rfl, (Below.refl _ _).alloc (Nat.le_refl _) _⟩

set_option maxRecDepth 100000 in
set_option maxHeartbeats 1000000 in
theorem refTab_any (w : World) :
    Calls Tryz.prog 93 #[] w fun e w' => e = .returned (.agg (rowL 128 tabS 128)) ∧ Below w.heap.size w w' := by
  have hstart : TableInv w ((w.alloc (.cells (rowL 128 tabS 0) 111)).alloc (.cells (rowL 128 tabS 0) 111)) 0 :=
    ⟨((Below.refl _ _).alloc (Nat.le_refl _) _).alloc (by simp) _, heap_alloc2_old _ _ _, heap_alloc2_new _ _ _⟩
  have hz := tab_run
  go_enter Tryz.func93, Tryz.ntmps93
  go_wp2
  go_loopw [2] (fun i w' => ∃ k : Nat, k ≤ 128 ∧ i = .int .i64 k ∧ TableInv w w' k) (fun i _ => 128 - (intOf i).toNat)
  case atStart => exact ⟨0, Nat.zero_le _, rfl, hstart⟩
  case round =>
    obtain ⟨k, hk, rfl, hinv⟩ := hrel
    clear hstart
    obtain ⟨hb, h0, h1⟩ := hinv
    have H0 := Lib.hid h0
    have H1 := Lib.hid h1
    by_cases hk16 : k < 128
    · have hc := (cell_of_row _ _ k _ _ _ h1).trans (rowL_get 128 tabS k k hk16)
      have hf := frozen_of_row _ _ k _ _ h1
      clear h0 h1
      go_wp2_with (go_at_call 143; (with_reducible refine (refCos_as _ (tabS k) _ rfl).mono ?_); rintro e w' ⟨rfl, rfl⟩)
      go_roundw
      case rel => exact ⟨k + 1, by omega, by go_num, hb.setCell (by simp) _, (heap_setCell_other _ _ _ _ (by simp)).trans H0.out, by rw [← rowL_next 128 tabS k hk16]; exact heap_setCell_same _ _ _ _ _ _ H1.out⟩
      case measure => simp [intOf]; omega
    · clear h0 h1
      obtain rfl : k = 128 := by omega
      go_wp2_with (first
        | refine wpList_load_row rfl 111 _ rfl (w.heap.size + 1) rfl _ _ (0, 0) _ H1.out Tryz.underlying111 rfl (tab_size 128) ?_
        | refine wpList_store_row rfl 111 _ _ rfl w.heap.size (rowL 128 tabS 128) rfl rfl _ _ H0.out (tab_size 128) (by rw [rowL_size, rowL_size]) (rowL_one 128 tabS 128) ?_)
      exact bodyPost_ret (v := .agg (rowL 128 tabS 128)) (results_cell_row rfl _ _ w.heap.size 111 (rowL 128 tabS 128) (0, 0) _ rfl (setRow_heap _ _ _ _ _ _ H0.out) Tryz.underlying111 rfl (tab_size 128)) rfl ⟨rfl, below_setRow hb _⟩
end Go.Proofs.YtfohinlldchdpaaGreatDoor.Md
end
