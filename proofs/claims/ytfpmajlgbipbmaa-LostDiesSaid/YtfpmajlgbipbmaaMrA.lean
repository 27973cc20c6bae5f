/- MdRow, MdA, MdC, MdD beside Row: zero rows, fix.Shift, fix.Cut to 32, turn, Held. -/
import Derived.Test.YtfpmajlgbipbmaaArB
import Derived.Test.YtfpmajlgbipbmaaMdMath
namespace Go.Proofs.Ytfpmajlgbipbmaa.Md
open Go.RowKit Go.Proofs.Ytfpmajlgbipbmaa.Row Go.Proofs.Ytfpmajlgbipbmaa.Ang
set_option linter.unusedVariables false

theorem zero_block : ∃ Z, IsRow 16 (fun _ => 0) Z ∧ (∀ f, rowL 16 f 0 = Z) ∧ (∀ w, (zeroValue 29).run Try.prog w = .ok (.agg Z) w) ∧ ∀ A : Array Value, A.size = 16 → (Try.prog.info? 29).map (·.size) = some A.size := zero_row (by kernel_rfl)

theorem zero_32 : ∃ Z, IsRow 32 (fun _ => 0) Z ∧ (∀ f, rowL 32 f 0 = Z) ∧ (∀ w, (zeroValue 56).run Try.prog w = .ok (.agg Z) w) ∧ ∀ A : Array Value, A.size = 32 → (Try.prog.info? 56).map (·.size) = some A.size := zero_row (by kernel_rfl)

theorem zero_16 : ∃ Z, IsRow 16 (fun _ => 0) Z ∧ (∀ f, rowL 16 f 0 = Z) ∧ (∀ w, (zeroValue 22).run Try.prog w = .ok (.agg Z) w) ∧ ∀ A : Array Value, A.size = 16 → (Try.prog.info? 22).map (·.size) = some A.size := zero_row (by kernel_rfl)

theorem zero_128 : ∃ Z, IsRow 128 (fun _ => 0) Z ∧ (∀ f, rowL 128 f 0 = Z) ∧ (∀ w, (zeroValue 64).run Try.prog w = .ok (.agg Z) w) ∧ ∀ A : Array Value, A.size = 128 → (Try.prog.info? 64).map (·.size) = some A.size := zero_row (by kernel_rfl)

theorem half_16 (x : Int) (w : World) (h1 : -9000000000000000000 ≤ x) (h2 : x ≤ 9000000000000000000) :
    Calls Try.prog 48 #[.int .i64 x, .int .i64 16] w fun e w' => e = .returned (.int .i64 ((x + 32768) / 65536)) ∧ w = w' := by
  go_enter Try.func48, Try.ntmps48
  go_wp2
  go_ret
  exact ⟨rfl, rfl⟩

theorem half_17 (x : Int) (w : World) (h1 : -9000000000000000000 ≤ x) (h2 : x ≤ 9000000000000000000) :
    Calls Try.prog 48 #[.int .i64 x, .int .i64 17] w fun e w' => e = .returned (.int .i64 ((x + 65536) / 131072)) ∧ w = w' := by
  go_enter Try.func48, Try.ntmps48
  go_wp2
  go_ret
  exact ⟨rfl, rfl⟩

theorem shift_16 (x : Int) (w : World) (h1 : -1099511627776 ≤ x) (h2 : x ≤ 1099511627776) :
    Calls Try.prog 37 #[.int .i64 x, .int .i64 16] w fun e w' => e = .returned (.int .i64 (nr16 x)) ∧ w = w' := by
  go_enter Try.func37, Try.ntmps37
  go_wp2_with (first
    | (go_at_call 47; refine (within_yes _ _ _ (by omega) (by omega) (by omega) (by omega)).mono ?_; rintro e w' ⟨rfl, rfl⟩)
    | (go_at_call 48; refine (half_16 _ _ (by omega) (by omega)).mono ?_; rintro e w' ⟨rfl, rfl⟩))
  go_ret
  exact ⟨rfl, rfl⟩

theorem shift_17 (x : Int) (w : World) (h1 : -1099511627776 ≤ x) (h2 : x ≤ 1099511627776) :
    Calls Try.prog 37 #[.int .i64 x, .int .i64 17] w fun e w' => e = .returned (.int .i64 (nr17 x)) ∧ w = w' := by
  go_enter Try.func37, Try.ntmps37
  go_wp2_with (first
    | (go_at_call 47; refine (within_yes _ _ _ (by omega) (by omega) (by omega) (by omega)).mono ?_; rintro e w' ⟨rfl, rfl⟩)
    | (go_at_call 48; refine (half_17 _ _ (by omega) (by omega)).mono ?_; rintro e w' ⟨rfl, rfl⟩))
  go_ret
  exact ⟨rfl, rfl⟩

/-- A number cut to 32 bits. -/
def ct (x : Int) : Int := max (-2147483648) (min x 2147483647)

theorem ct_bd (x : Int) : -2147483648 ≤ ct x ∧ ct x ≤ 2147483647 := by unfold ct; omega

theorem cut_any (x : Int) (w : World) :
    Calls Try.prog 23 #[.int .i64 x, .int .i64 32] w fun e w' => e = .returned (.int .i64 (ct x)) ∧ w = w' := by
  by_cases c1 : x < -2147483648
  · go_enter Try.func23, Try.ntmps23
    go_wp2
    go_ret
    exact ⟨ret_int (by unfold ct; omega), rfl⟩
  · by_cases c2 : 2147483647 < x
    · go_enter Try.func23, Try.ntmps23
      go_wp2
      go_ret
      exact ⟨ret_int (by unfold ct; omega), rfl⟩
    · have h : ¬ (x ≤ -2147483648) ∨ x = -2147483648 := by omega
      rcases h with h | rfl
      · go_enter Try.func23, Try.ntmps23
        go_wp2
        go_ret
        exact ⟨ret_int (by unfold ct; omega), rfl⟩
      · go_enter Try.func23, Try.ntmps23
        go_wp2
        go_ret
        exact ⟨ret_int (by decide), rfl⟩

theorem turn_any (n k : Nat) (w : World) (hn : n < 32) (hk : k < 16) :
    Calls Try.prog 35 #[.int .i64 n, .int .i64 k] w fun e w' => e = .returned (.int .i64 (((2 * n + 17) * (2 * k + 1) % 128 : Nat) : Int)) ∧ w = w' := by
  have hp : (2 * (n : Int) + 16 + 1) * (2 * (k : Int) + 1) = (((2 * n + 17) * (2 * k + 1) : Nat) : Int) := by
    rw [Int.natCast_mul]; congr 1
  have hb : (2 * n + 17) * (2 * k + 1) ≤ 79 * 31 := Nat.mul_le_mul (by omega) (by omega)
  obtain ⟨q, hq⟩ : ∃ q : Nat, (2 * n + 17) * (2 * k + 1) = q := ⟨_, rfl⟩
  rw [hq] at hp hb
  rw [hq]
  clear hq
  go_enter Try.func35, Try.ntmps35
  go_wp2
  go_ret
  exact ⟨ret_int (by omega), rfl⟩

theorem cut_as (x p : Int) (w : World) (h : ct x = p) :
    Calls Try.prog 23 #[.int .i64 x, .int .i64 32] w fun e w' => e = .returned (.int .i64 p) ∧ w = w' := by
  subst h; exact cut_any x w

/-- What is laid over. -/
def ovS (f g : Nat → Int) (k : Nat) : Int := ct (ct (f k) + ct (g k))

set_option maxHeartbeats 400000 in
theorem held_yes (T : Array Value) (f : Nat → Int) (hT : IsRow 16 f T) (hf : Le 1048576 f) (w : World) :
    Calls Try.prog 31 #[.agg T] w fun e w' => e = .returned (.bool true) ∧ Below w.heap.size w w' := by
  obtain ⟨Z, _, hZ0, hz, hi⟩ := zero_block
  have HT := Lib.hid hT
  have HF := Lib.hid hf
  have HI := Lib.hid hi
  have H0 := Lib.hid (At.new w T 29)
  clear hT hZ0 hi hf
  go_enter Try.func31, Try.ntmps31
  go_wp2_with (refine wpList_load_row rfl 29 _ rfl w.heap.size rfl _ _ (0, 0) _ H0.out Try.underlying29 rfl (HI.out _ HT.out.1) ?_)
  go_loop [6] (fun i => ∃ k : Nat, k ≤ 16 ∧ i = .int .i64 k) (fun i => 16 - (intOf i).toNat)
  case atStart => exact ⟨0, Nat.zero_le _, rfl⟩
  case round =>
    obtain ⟨k, hk, rfl⟩ := hrel
    by_cases hk16 : k < 16
    · have hc := HT.out.2.2 k hk16
      obtain ⟨b1, b2⟩ := le_ab (HF.out k hk16)
      obtain ⟨x, hx⟩ : ∃ x, f k = x := ⟨_, rfl⟩
      rw [hx] at hc b1 b2
      clear hx
      have hr := run_index Try.underlying29 hk16 hc
      clear hc
      go_wp2
      go_round
      case rel => exact ⟨k + 1, by omega, by go_num⟩
      case measure => simp [intOf]; omega
    · go_wp2
      go_ret
      exact ⟨rfl, (Below.refl _ _).alloc (Nat.le_refl _) _⟩

set_option maxHeartbeats 400000 in
theorem held_no (T : Array Value) (f : Nat → Int) (hT : IsRow 16 f T) (hf : ¬ Le 1048576 f) (w : World) :
    Calls Try.prog 31 #[.agg T] w fun e w' => e = .returned (.bool false) ∧ Below w.heap.size w w' := by
  obtain ⟨Z, _, hZ0, hz, hi⟩ := zero_block
  obtain ⟨j, hj, hbad, hpre⟩ := first_bad hf
  have HT := Lib.hid hT
  have HF := Lib.hid hpre
  have HB := Lib.hid hbad
  have HI := Lib.hid hi
  have H0 := Lib.hid (At.new w T 29)
  clear hT hZ0 hi hf hpre hbad
  go_enter Try.func31, Try.ntmps31
  go_wp2_with (refine wpList_load_row rfl 29 _ rfl w.heap.size rfl _ _ (0, 0) _ H0.out Try.underlying29 rfl (HI.out _ HT.out.1) ?_)
  go_loop [6] (fun i => ∃ k : Nat, k ≤ j ∧ i = .int .i64 k) (fun i => 16 - (intOf i).toNat)
  case atStart => exact ⟨0, Nat.zero_le _, rfl⟩
  case round =>
    obtain ⟨k, hk, rfl⟩ := hrel
    have hc := HT.out.2.2 k (by omega)
    obtain ⟨x, hx⟩ : ∃ x, f k = x := ⟨_, rfl⟩
    rw [hx] at hc
    have hr := run_index Try.underlying29 (show k < 16 by omega) hc
    clear hc
    have k1 : (k : Int) < 16 := by omega
    by_cases hkj : k < j
    · obtain ⟨b1, b2⟩ := le_ab (HF.out k hkj)
      rw [hx] at b1 b2
      clear hx
      go_wp2
      go_round
      case rel => exact ⟨k + 1, by omega, by go_num⟩
      case measure => simp [intOf]; omega
    · obtain rfl : k = j := by omega
      have hb : x < -1048576 ∨ (-1048576 ≤ x ∧ 1048576 < x) := by
        have := HB.out
        rw [hx] at this
        unfold ab at this
        omega
      clear hx
      rcases hb with hb | ⟨hb1, hb2⟩
      · go_wp2
        go_ret
        exact ⟨rfl, (Below.refl _ _).alloc (Nat.le_refl _) _⟩
      · go_wp2
        go_ret
        exact ⟨rfl, (Below.refl _ _).alloc (Nat.le_refl _) _⟩

theorem shift15_as (x r : Int) (w : World) (h1 : -1099511627776 ≤ x) (h2 : x ≤ 1099511627776) (h : near x = r) :
    Calls Try.prog 37 #[.int .i64 x, .int .i64 15] w fun e w' => e = .returned (.int .i64 r) ∧ w = w' := by
  subst h; exact shift_15 x w h1 h2

theorem g_bd {f : Nat → Int} (hf : Le 1048576 f) (n : Nat) : ab (gS f n) ≤ 16777216 :=
  near_bd (Int.le_trans (u_bd hf n 16 (by omega)) (by omega))
end Go.Proofs.Ytfpmajlgbipbmaa.Md
