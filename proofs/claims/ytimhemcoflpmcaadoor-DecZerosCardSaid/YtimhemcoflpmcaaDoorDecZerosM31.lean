/- Texts of the walk, one behind the other. -/
import Derived.Test.YtimhemcoflpmcaaDoorDecZerosM30
import Derived.Test.YtimhemcoflpmcaaDoorDecZerosM27

section
/- MdRow, MdA, MdC, MdD beside Row: zero rows, fix.Shift, fix.Cut to 32, turn, Held. -/
namespace Go.Proofs.YtimhemcoflpmcaaDoor.Md
open Go.RowKit Go.Proofs.YtimhemcoflpmcaaDoor.Row Go.Proofs.YtimhemcoflpmcaaDoor.Ang
set_option linter.unusedVariables false

theorem zero_block : ∃ Z, IsRow 16 (fun _ => 0) Z ∧ (∀ f, rowL 16 f 0 = Z) ∧ (∀ w, (zeroValue 27).run Tryd.prog w = .ok (.agg Z) w) ∧ ∀ A : Array Value, A.size = 16 → (Tryd.prog.info? 27).map (·.size) = some A.size := zero_row (by kernel_rfl)

theorem zero_32 : ∃ Z, IsRow 32 (fun _ => 0) Z ∧ (∀ f, rowL 32 f 0 = Z) ∧ (∀ w, (zeroValue 85).run Tryd.prog w = .ok (.agg Z) w) ∧ ∀ A : Array Value, A.size = 32 → (Tryd.prog.info? 85).map (·.size) = some A.size := zero_row (by kernel_rfl)

theorem zero_16 : ∃ Z, IsRow 16 (fun _ => 0) Z ∧ (∀ f, rowL 16 f 0 = Z) ∧ (∀ w, (zeroValue 22).run Tryd.prog w = .ok (.agg Z) w) ∧ ∀ A : Array Value, A.size = 16 → (Tryd.prog.info? 22).map (·.size) = some A.size := zero_row (by kernel_rfl)

theorem zero_128 : ∃ Z, IsRow 128 (fun _ => 0) Z ∧ (∀ f, rowL 128 f 0 = Z) ∧ (∀ w, (zeroValue 87).run Tryd.prog w = .ok (.agg Z) w) ∧ ∀ A : Array Value, A.size = 128 → (Tryd.prog.info? 87).map (·.size) = some A.size := zero_row (by kernel_rfl)

theorem half_16 (x : Int) (w : World) (h1 : -9000000000000000000 ≤ x) (h2 : x ≤ 9000000000000000000) :
    Calls Tryd.prog 73 #[.int .i64 x, .int .i64 16] w fun e w' => e = .returned (.int .i64 ((x + 32768) / 65536)) ∧ w = w' := by
  go_enter Tryd.func73, Tryd.ntmps73
  go_wp2
  go_ret
  exact ⟨rfl, rfl⟩

theorem half_17 (x : Int) (w : World) (h1 : -9000000000000000000 ≤ x) (h2 : x ≤ 9000000000000000000) :
    Calls Tryd.prog 73 #[.int .i64 x, .int .i64 17] w fun e w' => e = .returned (.int .i64 ((x + 65536) / 131072)) ∧ w = w' := by
  go_enter Tryd.func73, Tryd.ntmps73
  go_wp2
  go_ret
  exact ⟨rfl, rfl⟩

theorem shift_16 (x : Int) (w : World) (h1 : -1099511627776 ≤ x) (h2 : x ≤ 1099511627776) :
    Calls Tryd.prog 49 #[.int .i64 x, .int .i64 16] w fun e w' => e = .returned (.int .i64 (nr16 x)) ∧ w = w' := by
  go_enter Tryd.func49, Tryd.ntmps49
  go_wp2_with (first
    | (go_at_call 72; refine (within_yes _ _ _ (by omega) (by omega) (by omega) (by omega)).mono ?_; rintro e w' ⟨rfl, rfl⟩)
    | (go_at_call 73; refine (half_16 _ _ (by omega) (by omega)).mono ?_; rintro e w' ⟨rfl, rfl⟩))
  go_ret
  exact ⟨rfl, rfl⟩

theorem shift_17 (x : Int) (w : World) (h1 : -1099511627776 ≤ x) (h2 : x ≤ 1099511627776) :
    Calls Tryd.prog 49 #[.int .i64 x, .int .i64 17] w fun e w' => e = .returned (.int .i64 (nr17 x)) ∧ w = w' := by
  go_enter Tryd.func49, Tryd.ntmps49
  go_wp2_with (first
    | (go_at_call 72; refine (within_yes _ _ _ (by omega) (by omega) (by omega) (by omega)).mono ?_; rintro e w' ⟨rfl, rfl⟩)
    | (go_at_call 73; refine (half_17 _ _ (by omega) (by omega)).mono ?_; rintro e w' ⟨rfl, rfl⟩))
  go_ret
  exact ⟨rfl, rfl⟩

/-- A number cut to 32 bits. -/
def ct (x : Int) : Int := max (-2147483648) (min x 2147483647)

theorem ct_bd (x : Int) : -2147483648 ≤ ct x ∧ ct x ≤ 2147483647 := by unfold ct; omega

theorem cut_any (x : Int) (w : World) :
    Calls Tryd.prog 23 #[.int .i64 x, .int .i64 32] w fun e w' => e = .returned (.int .i64 (ct x)) ∧ w = w' := by
  by_cases c1 : x < -2147483648
  · go_enter Tryd.func23, Tryd.ntmps23
    go_wp2
    go_ret
    exact ⟨ret_int (by unfold ct; omega), rfl⟩
  · by_cases c2 : 2147483647 < x
    · go_enter Tryd.func23, Tryd.ntmps23
      go_wp2
      go_ret
      exact ⟨ret_int (by unfold ct; omega), rfl⟩
    · have h : ¬ (x ≤ -2147483648) ∨ x = -2147483648 := by omega
      rcases h with h | rfl
      · go_enter Tryd.func23, Tryd.ntmps23
        go_wp2
        go_ret
        exact ⟨ret_int (by unfold ct; omega), rfl⟩
      · go_enter Tryd.func23, Tryd.ntmps23
        go_wp2
        go_ret
        exact ⟨ret_int (by decide), rfl⟩

theorem turn_any (n k : Nat) (w : World) (hn : n < 32) (hk : k < 16) :
    Calls Tryd.prog 47 #[.int .i64 n, .int .i64 k] w fun e w' => e = .returned (.int .i64 (((2 * n + 17) * (2 * k + 1) % 128 : Nat) : Int)) ∧ w = w' := by
  have hp : (2 * (n : Int) + 16 + 1) * (2 * (k : Int) + 1) = (((2 * n + 17) * (2 * k + 1) : Nat) : Int) := by
    rw [Int.natCast_mul]; congr 1
  have hb : (2 * n + 17) * (2 * k + 1) ≤ 79 * 31 := Nat.mul_le_mul (by omega) (by omega)
  obtain ⟨q, hq⟩ : ∃ q : Nat, (2 * n + 17) * (2 * k + 1) = q := ⟨_, rfl⟩
  rw [hq] at hp hb
  rw [hq]
  clear hq
  go_enter Tryd.func47, Tryd.ntmps47
  go_wp2
  go_ret
  exact ⟨ret_int (by omega), rfl⟩

theorem cut_as (x p : Int) (w : World) (h : ct x = p) :
    Calls Tryd.prog 23 #[.int .i64 x, .int .i64 32] w fun e w' => e = .returned (.int .i64 p) ∧ w = w' := by
  subst h; exact cut_any x w

/-- What is laid over. -/
def ovS (f g : Nat → Int) (k : Nat) : Int := ct (ct (f k) + ct (g k))

set_option maxHeartbeats 400000 in
theorem held_yes (T : Array Value) (f : Nat → Int) (hT : IsRow 16 f T) (hf : Le 1048576 f) (w : World) :
    Calls Tryd.prog 13 #[.agg T] w fun e w' => e = .returned (.bool true) ∧ Below w.heap.size w w' := by
  obtain ⟨Z, _, hZ0, hz, hi⟩ := zero_block
  have HT := Lib.hid hT
  have HF := Lib.hid hf
  have HI := Lib.hid hi
  have H0 := Lib.hid (At.new w T 27)
  clear hT hZ0 hi hf
  go_enter Tryd.func13, Tryd.ntmps13
  go_wp2_with (refine wpList_load_row rfl 27 _ rfl w.heap.size rfl _ _ (0, 0) _ H0.out Tryd.underlying27 rfl (HI.out _ HT.out.1) ?_)
  go_loop [6] (fun i => ∃ k : Nat, k ≤ 16 ∧ i = .int .i64 k) (fun i => 16 - (intOf i).toNat)
  case atStart => exact ⟨0, Nat.zero_le _, rfl⟩
  case round =>
    obtain ⟨k, hk, rfl⟩ := hrel
    by_cases hk16 : k < 16
    · have hc := HT.out.2.2 k hk16
      obtain ⟨b1, b2⟩ := le_ab (HF.out k hk16)
      obtain ⟨x, hx⟩ : ∃ x, f k = x := ⟨_, rfl⟩
      rw [hx] at hc b1 b2
      clear hx
      have hr := run_index Tryd.underlying27 hk16 hc
      clear hc
      go_wp2
      go_round
      case rel => exact ⟨k + 1, by omega, by go_num⟩
      case measure => simp [intOf]; omega
    · go_wp2
      go_ret
      exact ⟨rfl, (Below.refl _ _).alloc (Nat.le_refl _) _⟩

set_option maxHeartbeats 400000 in
theorem held_no (T : Array Value) (f : Nat → Int) (hT : IsRow 16 f T) (hf : ¬ Le 1048576 f) (w : World) :
    Calls Tryd.prog 13 #[.agg T] w fun e w' => e = .returned (.bool false) ∧ Below w.heap.size w w' := by
  obtain ⟨Z, _, hZ0, hz, hi⟩ := zero_block
  obtain ⟨j, hj, hbad, hpre⟩ := first_bad hf
  have HT := Lib.hid hT
  have HF := Lib.hid hpre
  have HB := Lib.hid hbad
  have HI := Lib.hid hi
  have H0 := Lib.hid (At.new w T 27)
  clear hT hZ0 hi hf hpre hbad
  go_enter Tryd.func13, Tryd.ntmps13
  go_wp2_with (refine wpList_load_row rfl 27 _ rfl w.heap.size rfl _ _ (0, 0) _ H0.out Tryd.underlying27 rfl (HI.out _ HT.out.1) ?_)
  go_loop [6] (fun i => ∃ k : Nat, k ≤ j ∧ i = .int .i64 k) (fun i => 16 - (intOf i).toNat)
  case atStart => exact ⟨0, Nat.zero_le _, rfl⟩
  case round =>
    obtain ⟨k, hk, rfl⟩ := hrel
    have hc := HT.out.2.2 k (by omega)
    obtain ⟨x, hx⟩ : ∃ x, f k = x := ⟨_, rfl⟩
    rw [hx] at hc
    have hr := run_index Tryd.underlying27 (show k < 16 by omega) hc
    clear hc
    have k1 : (k : Int) < 16 := by omega
    by_cases hkj : k < j
    · obtain ⟨b1, b2⟩ := le_ab (HF.out k hkj)
      rw [hx] at b1 b2
      clear hx
      go_wp2
      go_round
      case rel => exact ⟨k + 1, by omega, by go_num⟩
      case measure => simp [intOf]; omega
    · obtain rfl : k = j := by omega
      have hb : x < -1048576 ∨ (-1048576 ≤ x ∧ 1048576 < x) := by
        have := HB.out
        rw [hx] at this
        unfold ab at this
        omega
      clear hx
      rcases hb with hb | ⟨hb1, hb2⟩
      · go_wp2
        go_ret
        exact ⟨rfl, (Below.refl _ _).alloc (Nat.le_refl _) _⟩
      · go_wp2
        go_ret
        exact ⟨rfl, (Below.refl _ _).alloc (Nat.le_refl _) _⟩

theorem shift15_as (x r : Int) (w : World) (h1 : -1099511627776 ≤ x) (h2 : x ≤ 1099511627776) (h : near x = r) :
    Calls Tryd.prog 49 #[.int .i64 x, .int .i64 15] w fun e w' => e = .returned (.int .i64 r) ∧ w = w' := by
  subst h; exact shift_15 x w h1 h2

theorem g_bd {f : Nat → Int} (hf : Le 1048576 f) (n : Nat) : ab (gS f n) ≤ 16777216 :=
  near_bd (Int.le_trans (u_bd hf n 16 (by omega)) (by omega))
end Go.Proofs.YtimhemcoflpmcaaDoor.Md
end

section
/- MdB beside Row: mdct.Over. -/
namespace Go.Proofs.YtimhemcoflpmcaaDoor.Md
open Go.RowKit Go.Proofs.YtimhemcoflpmcaaDoor.Row Go.Proofs.YtimhemcoflpmcaaDoor.Ang
set_option linter.unusedVariables false

/-- What holds of the memory while Over's row is filled. -/
def OverInv (w w' : World) (T U Z : Array Value) (g : Nat → Int) (k : Nat) : Prop :=
  Below w.heap.size w w' ∧ At w' w.heap.size T 27 ∧ At w' (w.heap.size + 1) U 27 ∧ At w' (w.heap.size + 1 + 1) Z 27 ∧ At w' (w.heap.size + 1 + 1 + 1) (rowL 16 g k) 27

theorem over_start (w : World) (T U Z : Array Value) (g : Nat → Int) (h : rowL 16 g 0 = Z) : OverInv w ((((w.alloc (.cells T 27)).alloc (.cells U 27)).alloc (.cells Z 27)).alloc (.cells Z 27)) T U Z g 0 := by
  refine ⟨((((Below.refl _ _).alloc (Nat.le_refl _) _).alloc (by simp) _).alloc (by simp; omega) _).alloc (by simp; omega) _, (((At.new _ _ _).alloc _).alloc _).alloc _, ?_, ?_, ?_⟩
  · have := ((At.new (w.alloc (.cells T 27)) U 27).alloc (.cells Z 27)).alloc (.cells Z 27)
    simpa using this
  · have := (At.new ((w.alloc (.cells T 27)).alloc (.cells U 27)) Z 27).alloc (.cells Z 27)
    simpa using this
  · have := At.new (((w.alloc (.cells T 27)).alloc (.cells U 27)).alloc (.cells Z 27)) Z 27
    rw [h]
    simpa using this

set_option maxHeartbeats 1000000 in
theorem over_any (T U : Array Value) (f g : Nat → Int) (hT : IsRow 16 f T) (hU : IsRow 16 g U) (w : World) :
    Calls Tryd.prog 25 #[.agg T, .agg U] w fun e w' => e = .returned (.agg (rowL 16 (ovS f g) 16)) ∧ Below w.heap.size w w' := by
  obtain ⟨Z, _, hZ0, hz, hi⟩ := zero_block
  have HT := Lib.hid hT
  have HU := Lib.hid hU
  have ZE := Lib.hid hZ0
  have HI := Lib.hid hi
  have hstart := over_start w T U Z (ovS f g) (hZ0 _)
  clear hT hU hZ0 hi
  go_enter Tryd.func25, Tryd.ntmps25
  go_wp2
  go_loopw [7] (fun i w' => ∃ k : Nat, k ≤ 16 ∧ i = .int .i64 k ∧ OverInv w w' T U Z (ovS f g) k) (fun i _ => 16 - (intOf i).toNat)
  case atStart => exact ⟨0, Nat.zero_le _, rfl, hstart⟩
  case round =>
    obtain ⟨k, hk, rfl, hinv⟩ := hrel
    clear hstart
    obtain ⟨hb, h0, h1, h2, h3⟩ := hinv
    have H0 := Lib.hid h0
    have H1 := Lib.hid h1
    have H2 := Lib.hid h2
    have H3 := Lib.hid h3
    by_cases hk16 : k < 16
    · have c0 := HT.out.cell h0 k hk16
      have c1 := HU.out.cell h1 k hk16
      have c3 := rowL_cell h3 k hk16
      have f3 := h3.frozen k
      obtain ⟨x, hx⟩ : ∃ x, f k = x := ⟨_, rfl⟩
      obtain ⟨y, hy⟩ : ∃ x, g k = x := ⟨_, rfl⟩
      obtain ⟨p, hp⟩ : ∃ p, ct x = p := ⟨_, rfl⟩
      obtain ⟨q, hq⟩ : ∃ q, ct y = q := ⟨_, rfl⟩
      obtain ⟨r, hr⟩ : ∃ r, ct (p + q) = r := ⟨_, rfl⟩
      obtain ⟨p1, p2⟩ := ct_bd x
      obtain ⟨q1, q2⟩ := ct_bd y
      rw [hp] at p1 p2
      rw [hq] at q1 q2
      have HX := Lib.hid (show ovS f g k = r by unfold ovS; rw [hx, hy, hp, hq, hr])
      rw [hx] at c0
      rw [hy] at c1
      have HP := Lib.hid hp
      have HQ := Lib.hid hq
      have HR := Lib.hid hr
      have k1 : (k : Int) < 16 := by omega
      have k0 : (0 : Int) ≤ (k : Int) := by omega
      have hs : IntKind.i64.wrap (p + q) = p + q := IntWalk.i64_in _ (by omega)
      clear h0 h1 h2 h3 hx hy hp hq hr
      go_wp2_with fail
      go_region_held3 (fun w' => w'.cell? ⟨w.heap.size, k, none⟩ = some (.int .i64 x) ∧ w'.cell? ⟨w.heap.size + 1, k, none⟩ = some (.int .i64 y)) (first | assumption | exact ⟨c0, c1⟩ | exact cells2 ⟨c0, c1⟩ (by dsimp only; omega) (by dsimp only; omega))
        (first
          | (go_at_call 23; (with_reducible refine (cut_as x p _ HP.out).mono ?_); rintro e w' ⟨rfl, rfl⟩)
          | (go_at_call 23; (with_reducible refine (cut_as y q _ HQ.out).mono ?_); rintro e w' ⟨rfl, rfl⟩)
          | (go_at_call 23; (with_reducible refine (cut_as (p + q) r _ HR.out).mono ?_); rintro e w' ⟨rfl, rfl⟩))
      go_wp2
      go_roundw
      case rel => exact ⟨k + 1, by omega, by go_num, (hb.setCell (by dsimp only; omega) _).drew, H0.out.setCell_other (by dsimp only; omega), H1.out.setCell_other (by dsimp only; omega), H2.out.setCell_other (by dsimp only; omega), by rw [← HX.out]; exact H3.out.put hk16⟩
      case measure => simp [intOf]; omega
    · clear h0 h1 h2 h3
      obtain rfl : k = 16 := by omega
      go_wp2_with (first
        | refine wpList_load_row rfl 27 _ rfl (w.heap.size + 1 + 1 + 1) rfl _ _ (0, 0) _ H3.out Tryd.underlying27 rfl (HI.out _ (rowL_size _ _ _)) ?_
        | refine wpList_store_row rfl 27 _ _ rfl (w.heap.size + 1 + 1) (rowL 16 (ovS f g) 16) rfl rfl _ _ H2.out (HI.out _ (rowL_size _ _ _)) (by rw [← ZE.out (ovS f g), rowL_size, rowL_size]) (rowL_one _ _ _) ?_)
      exact bodyPost_ret (v := .agg (rowL 16 (ovS f g) 16)) (results_cell_row rfl _ _ (w.heap.size + 1 + 1) 27 (rowL 16 (ovS f g) 16) (0, 0) _ rfl H2.out.setRow Tryd.underlying27 rfl (HI.out _ (rowL_size _ _ _))) rfl ⟨rfl, below_setRow' hb (by omega) _⟩
end Go.Proofs.YtimhemcoflpmcaaDoor.Md
end
