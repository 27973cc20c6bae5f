/- Texts of the walk, one behind the other. -/
import Derived.Test.YtfohinlldchdpaaGreatDoorEncPlaysM4
import Derived.Test.YtfohinlldchdpaaGreatDoorEncPlaysM3
import Derived.Laws.EntriesVeiled

section
/- MdRow, MdA, MdC, MdD beside Row: zero rows, fix.Shift, fix.Cut to 32, turn, Held. -/
namespace Go.Proofs.YtfohinlldchdpaaGreatDoor.Md
open Go.RowKit Go.Proofs.YtfohinlldchdpaaGreatDoor.Row Go.Proofs.YtfohinlldchdpaaGreatDoor.Ang
set_option linter.unusedVariables false

theorem zero_block : ∃ Z, IsRow 16 (fun _ => 0) Z ∧ (∀ f, rowL 16 f 0 = Z) ∧ (∀ w, (zeroValue 32).run Tryz.prog w = .ok (.agg Z) w) ∧ ∀ A : Array Value, A.size = 16 → (Tryz.prog.info? 32).map (·.size) = some A.size := zero_row (by kernel_rfl)

theorem zero_32 : ∃ Z, IsRow 32 (fun _ => 0) Z ∧ (∀ f, rowL 32 f 0 = Z) ∧ (∀ w, (zeroValue 109).run Tryz.prog w = .ok (.agg Z) w) ∧ ∀ A : Array Value, A.size = 32 → (Tryz.prog.info? 109).map (·.size) = some A.size := zero_row (by kernel_rfl)

theorem zero_16 : ∃ Z, IsRow 16 (fun _ => 0) Z ∧ (∀ f, rowL 16 f 0 = Z) ∧ (∀ w, (zeroValue 22).run Tryz.prog w = .ok (.agg Z) w) ∧ ∀ A : Array Value, A.size = 16 → (Tryz.prog.info? 22).map (·.size) = some A.size := zero_row (by kernel_rfl)

theorem zero_128 : ∃ Z, IsRow 128 (fun _ => 0) Z ∧ (∀ f, rowL 128 f 0 = Z) ∧ (∀ w, (zeroValue 111).run Tryz.prog w = .ok (.agg Z) w) ∧ ∀ A : Array Value, A.size = 128 → (Tryz.prog.info? 111).map (·.size) = some A.size := zero_row (by kernel_rfl)

theorem half_16 (x : Int) (w : World) (h1 : -9000000000000000000 ≤ x) (h2 : x ≤ 9000000000000000000) :
    Calls Tryz.prog 112 #[.int .i64 x, .int .i64 16] w fun e w' => e = .returned (.int .i64 ((x + 32768) / 65536)) ∧ w = w' := by
  go_enter Tryz.func112, Tryz.ntmps112
  go_wp2
  go_ret
  exact ⟨rfl, rfl⟩

theorem half_17 (x : Int) (w : World) (h1 : -9000000000000000000 ≤ x) (h2 : x ≤ 9000000000000000000) :
    Calls Tryz.prog 112 #[.int .i64 x, .int .i64 17] w fun e w' => e = .returned (.int .i64 ((x + 65536) / 131072)) ∧ w = w' := by
  go_enter Tryz.func112, Tryz.ntmps112
  go_wp2
  go_ret
  exact ⟨rfl, rfl⟩

theorem shift_16 (x : Int) (w : World) (h1 : -1099511627776 ≤ x) (h2 : x ≤ 1099511627776) :
    Calls Tryz.prog 68 #[.int .i64 x, .int .i64 16] w fun e w' => e = .returned (.int .i64 (nr16 x)) ∧ w = w' := by
  go_enter Tryz.func68, Tryz.ntmps68
  go_wp2_with (first
    | (go_at_call 111; refine (within_yes _ _ _ (by omega) (by omega) (by omega) (by omega)).mono ?_; rintro e w' ⟨rfl, rfl⟩)
    | (go_at_call 112; refine (half_16 _ _ (by omega) (by omega)).mono ?_; rintro e w' ⟨rfl, rfl⟩))
  go_ret
  exact ⟨rfl, rfl⟩

theorem shift_17 (x : Int) (w : World) (h1 : -1099511627776 ≤ x) (h2 : x ≤ 1099511627776) :
    Calls Tryz.prog 68 #[.int .i64 x, .int .i64 17] w fun e w' => e = .returned (.int .i64 (nr17 x)) ∧ w = w' := by
  go_enter Tryz.func68, Tryz.ntmps68
  go_wp2_with (first
    | (go_at_call 111; refine (within_yes _ _ _ (by omega) (by omega) (by omega) (by omega)).mono ?_; rintro e w' ⟨rfl, rfl⟩)
    | (go_at_call 112; refine (half_17 _ _ (by omega) (by omega)).mono ?_; rintro e w' ⟨rfl, rfl⟩))
  go_ret
  exact ⟨rfl, rfl⟩

/-- A number cut to 32 bits. -/
def ct (x : Int) : Int := max (-2147483648) (min x 2147483647)

theorem ct_bd (x : Int) : -2147483648 ≤ ct x ∧ ct x ≤ 2147483647 := by unfold ct; omega

theorem cut_any (x : Int) (w : World) :
    Calls Tryz.prog 58 #[.int .i64 x, .int .i64 32] w fun e w' => e = .returned (.int .i64 (ct x)) ∧ w = w' := by
  by_cases c1 : x < -2147483648
  · go_enter Tryz.func58, Tryz.ntmps58
    go_wp2
    go_ret
    exact ⟨ret_int (by unfold ct; omega), rfl⟩
  · by_cases c2 : 2147483647 < x
    · go_enter Tryz.func58, Tryz.ntmps58
      go_wp2
      go_ret
      exact ⟨ret_int (by unfold ct; omega), rfl⟩
    · have h : ¬ (x ≤ -2147483648) ∨ x = -2147483648 := by omega
      rcases h with h | rfl
      · go_enter Tryz.func58, Tryz.ntmps58
        go_wp2
        go_ret
        exact ⟨ret_int (by unfold ct; omega), rfl⟩
      · go_enter Tryz.func58, Tryz.ntmps58
        go_wp2
        go_ret
        exact ⟨ret_int (by decide), rfl⟩

theorem turn_any (n k : Nat) (w : World) (hn : n < 32) (hk : k < 16) :
    Calls Tryz.prog 67 #[.int .i64 n, .int .i64 k] w fun e w' => e = .returned (.int .i64 (((2 * n + 17) * (2 * k + 1) % 128 : Nat) : Int)) ∧ w = w' := by
  have hp : (2 * (n : Int) + 16 + 1) * (2 * (k : Int) + 1) = (((2 * n + 17) * (2 * k + 1) : Nat) : Int) := by
    rw [Int.natCast_mul]; congr 1
  have hb : (2 * n + 17) * (2 * k + 1) ≤ 79 * 31 := Nat.mul_le_mul (by omega) (by omega)
  obtain ⟨q, hq⟩ : ∃ q : Nat, (2 * n + 17) * (2 * k + 1) = q := ⟨_, rfl⟩
  rw [hq] at hp hb
  rw [hq]
  clear hq
  go_enter Tryz.func67, Tryz.ntmps67
  go_wp2
  go_ret
  exact ⟨ret_int (by omega), rfl⟩

theorem cut_as (x p : Int) (w : World) (h : ct x = p) :
    Calls Tryz.prog 58 #[.int .i64 x, .int .i64 32] w fun e w' => e = .returned (.int .i64 p) ∧ w = w' := by
  subst h; exact cut_any x w

/-- What is laid over. -/
def ovS (f g : Nat → Int) (k : Nat) : Int := ct (ct (f k) + ct (g k))

set_option maxHeartbeats 400000 in
theorem held_yes (T : Array Value) (f : Nat → Int) (hT : IsRow 16 f T) (hf : Le 1048576 f) (w : World) :
    Calls Tryz.prog 63 #[.agg T] w fun e w' => e = .returned (.bool true) ∧ Below w.heap.size w w' := by
  obtain ⟨Z, _, hZ0, hz, hi⟩ := zero_block
  have HT := Lib.hid hT
  have HF := Lib.hid hf
  have HI := Lib.hid hi
  have H0 := Lib.hid (At.new w T 32)
  clear hT hZ0 hi hf
  go_enter Tryz.func63, Tryz.ntmps63
  go_wp2_with (refine wpList_load_row rfl 32 _ rfl w.heap.size rfl _ _ (0, 0) _ H0.out Tryz.underlying32 rfl (HI.out _ HT.out.1) ?_)
  go_loop [6] (fun i => ∃ k : Nat, k ≤ 16 ∧ i = .int .i64 k) (fun i => 16 - (intOf i).toNat)
  case atStart => exact ⟨0, Nat.zero_le _, rfl⟩
  case round =>
    obtain ⟨k, hk, rfl⟩ := hrel
    by_cases hk16 : k < 16
    · have hc := HT.out.2.2 k hk16
      obtain ⟨b1, b2⟩ := le_ab (HF.out k hk16)
      obtain ⟨x, hx⟩ : ∃ x, f k = x := ⟨_, rfl⟩
      rw [hx] at hc b1 b2
      clear hx
      have hr := run_index Tryz.underlying32 hk16 hc
      clear hc
      go_wp2
      go_round
      case rel => exact ⟨k + 1, by omega, by go_num⟩
      case measure => simp [intOf]; omega
    · go_wp2
      go_ret
      exact ⟨rfl, (Below.refl _ _).alloc (Nat.le_refl _) _⟩

set_option maxHeartbeats 400000 in
theorem held_no (T : Array Value) (f : Nat → Int) (hT : IsRow 16 f T) (hf : ¬ Le 1048576 f) (w : World) :
    Calls Tryz.prog 63 #[.agg T] w fun e w' => e = .returned (.bool false) ∧ Below w.heap.size w w' := by
  obtain ⟨Z, _, hZ0, hz, hi⟩ := zero_block
  obtain ⟨j, hj, hbad, hpre⟩ := first_bad hf
  have HT := Lib.hid hT
  have HF := Lib.hid hpre
  have HB := Lib.hid hbad
  have HI := Lib.hid hi
  have H0 := Lib.hid (At.new w T 32)
  clear hT hZ0 hi hf hpre hbad
  go_enter Tryz.func63, Tryz.ntmps63
  go_wp2_with (refine wpList_load_row rfl 32 _ rfl w.heap.size rfl _ _ (0, 0) _ H0.out Tryz.underlying32 rfl (HI.out _ HT.out.1) ?_)
  go_loop [6] (fun i => ∃ k : Nat, k ≤ j ∧ i = .int .i64 k) (fun i => 16 - (intOf i).toNat)
  case atStart => exact ⟨0, Nat.zero_le _, rfl⟩
  case round =>
    obtain ⟨k, hk, rfl⟩ := hrel
    have hc := HT.out.2.2 k (by omega)
    obtain ⟨x, hx⟩ : ∃ x, f k = x := ⟨_, rfl⟩
    rw [hx] at hc
    have hr := run_index Tryz.underlying32 (show k < 16 by omega) hc
    clear hc
    have k1 : (k : Int) < 16 := by omega
    by_cases hkj : k < j
    · obtain ⟨b1, b2⟩ := le_ab (HF.out k hkj)
      rw [hx] at b1 b2
      clear hx
      go_wp2
      go_round
      case rel => exact ⟨k + 1, by omega, by go_num⟩
      case measure => simp [intOf]; omega
    · obtain rfl : k = j := by omega
      have hb : x < -1048576 ∨ (-1048576 ≤ x ∧ 1048576 < x) := by
        have := HB.out
        rw [hx] at this
        unfold ab at this
        omega
      clear hx
      rcases hb with hb | ⟨hb1, hb2⟩
      · go_wp2
        go_ret
        exact ⟨rfl, (Below.refl _ _).alloc (Nat.le_refl _) _⟩
      · go_wp2
        go_ret
        exact ⟨rfl, (Below.refl _ _).alloc (Nat.le_refl _) _⟩

theorem shift15_as (x r : Int) (w : World) (h1 : -1099511627776 ≤ x) (h2 : x ≤ 1099511627776) (h : near x = r) :
    Calls Tryz.prog 68 #[.int .i64 x, .int .i64 15] w fun e w' => e = .returned (.int .i64 r) ∧ w = w' := by
  subst h; exact shift_15 x w h1 h2

theorem g_bd {f : Nat → Int} (hf : Le 1048576 f) (n : Nat) : ab (gS f n) ≤ 16777216 :=
  near_bd (Int.le_trans (u_bd hf n 16 (by omega)) (by omega))
end Go.Proofs.YtfohinlldchdpaaGreatDoor.Md
end

section
/- MdB beside Row: mdct.Over. -/
namespace Go.Proofs.YtfohinlldchdpaaGreatDoor.Md
open Go.RowKit Go.Proofs.YtfohinlldchdpaaGreatDoor.Row Go.Proofs.YtfohinlldchdpaaGreatDoor.Ang
set_option linter.unusedVariables false

/-- What holds of the memory while Over's row is filled. -/
def OverInv (w w' : World) (T U Z : Array Value) (g : Nat → Int) (k : Nat) : Prop :=
  Below w.heap.size w w' ∧ At w' w.heap.size T 32 ∧ At w' (w.heap.size + 1) U 32 ∧ At w' (w.heap.size + 1 + 1) Z 32 ∧ At w' (w.heap.size + 1 + 1 + 1) (rowL 16 g k) 32

theorem over_start (w : World) (T U Z : Array Value) (g : Nat → Int) (h : rowL 16 g 0 = Z) : OverInv w ((((w.alloc (.cells T 32)).alloc (.cells U 32)).alloc (.cells Z 32)).alloc (.cells Z 32)) T U Z g 0 := by
  refine ⟨((((Below.refl _ _).alloc (Nat.le_refl _) _).alloc (by simp) _).alloc (by simp; omega) _).alloc (by simp; omega) _, (((At.new _ _ _).alloc _).alloc _).alloc _, ?_, ?_, ?_⟩
  · have := ((At.new (w.alloc (.cells T 32)) U 32).alloc (.cells Z 32)).alloc (.cells Z 32)
    simpa using this
  · have := (At.new ((w.alloc (.cells T 32)).alloc (.cells U 32)) Z 32).alloc (.cells Z 32)
    simpa using this
  · have := At.new (((w.alloc (.cells T 32)).alloc (.cells U 32)).alloc (.cells Z 32)) Z 32
    rw [h]
    simpa using this

set_option maxHeartbeats 1000000 in
theorem over_any (T U : Array Value) (f g : Nat → Int) (hT : IsRow 16 f T) (hU : IsRow 16 g U) (w : World) :
    Calls Tryz.prog 90 #[.agg T, .agg U] w fun e w' => e = .returned (.agg (rowL 16 (ovS f g) 16)) ∧ Below w.heap.size w w' := by
  obtain ⟨Z, _, hZ0, hz, hi⟩ := zero_block
  have HT := Lib.hid hT
  have HU := Lib.hid hU
  have ZE := Lib.hid hZ0
  have HI := Lib.hid hi
  have hstart := over_start w T U Z (ovS f g) (hZ0 _)
  clear hT hU hZ0 hi
  go_enter Tryz.func90, Tryz.ntmps90
  go_wp2
  go_loopw [7] (fun i w' => ∃ k : Nat, k ≤ 16 ∧ i = .int .i64 k ∧ OverInv w w' T U Z (ovS f g) k) (fun i _ => 16 - (intOf i).toNat)
  case atStart => exact ⟨0, Nat.zero_le _, rfl, hstart⟩
  case round =>
    obtain ⟨k, hk, rfl, hinv⟩ := hrel
    clear hstart
    obtain ⟨hb, h0, h1, h2, h3⟩ := hinv
    have H0 := Lib.hid h0
    have H1 := Lib.hid h1
    have H2 := Lib.hid h2
    have H3 := Lib.hid h3
    by_cases hk16 : k < 16
    · have c0 := HT.out.cell h0 k hk16
      have c1 := HU.out.cell h1 k hk16
      have c3 := rowL_cell h3 k hk16
      have f3 := h3.frozen k
      obtain ⟨x, hx⟩ : ∃ x, f k = x := ⟨_, rfl⟩
      obtain ⟨y, hy⟩ : ∃ x, g k = x := ⟨_, rfl⟩
      obtain ⟨p, hp⟩ : ∃ p, ct x = p := ⟨_, rfl⟩
      obtain ⟨q, hq⟩ : ∃ q, ct y = q := ⟨_, rfl⟩
      obtain ⟨r, hr⟩ : ∃ r, ct (p + q) = r := ⟨_, rfl⟩
      obtain ⟨p1, p2⟩ := ct_bd x
      obtain ⟨q1, q2⟩ := ct_bd y
      rw [hp] at p1 p2
      rw [hq] at q1 q2
      have HX := Lib.hid (show ovS f g k = r by unfold ovS; rw [hx, hy, hp, hq, hr])
      rw [hx] at c0
      rw [hy] at c1
      have HP := Lib.hid hp
      have HQ := Lib.hid hq
      have HR := Lib.hid hr
      have k1 : (k : Int) < 16 := by omega
      have k0 : (0 : Int) ≤ (k : Int) := by omega
      have hs : IntKind.i64.wrap (p + q) = p + q := IntWalk.i64_in _ (by omega)
      clear h0 h1 h2 h3 hx hy hp hq hr
      go_wp2_with fail
      go_region_held3 (fun w' => w'.cell? ⟨w.heap.size, k, none⟩ = some (.int .i64 x) ∧ w'.cell? ⟨w.heap.size + 1, k, none⟩ = some (.int .i64 y)) (first | assumption | exact ⟨c0, c1⟩ | exact cells2 ⟨c0, c1⟩ (by dsimp only; omega) (by dsimp only; omega))
        (first
          | (go_at_call 58; (with_reducible refine (cut_as x p _ HP.out).mono ?_); rintro e w' ⟨rfl, rfl⟩)
          | (go_at_call 58; (with_reducible refine (cut_as y q _ HQ.out).mono ?_); rintro e w' ⟨rfl, rfl⟩)
          | (go_at_call 58; (with_reducible refine (cut_as (p + q) r _ HR.out).mono ?_); rintro e w' ⟨rfl, rfl⟩))
      go_wp2
      go_roundw
      case rel => exact ⟨k + 1, by omega, by go_num, (hb.setCell (by dsimp only; omega) _).drew, H0.out.setCell_other (by dsimp only; omega), H1.out.setCell_other (by dsimp only; omega), H2.out.setCell_other (by dsimp only; omega), by rw [← HX.out]; exact H3.out.put hk16⟩
      case measure => simp [intOf]; omega
    · clear h0 h1 h2 h3
      obtain rfl : k = 16 := by omega
      go_wp2_with (first
        | refine wpList_load_row rfl 32 _ rfl (w.heap.size + 1 + 1 + 1) rfl _ _ (0, 0) _ H3.out Tryz.underlying32 rfl (HI.out _ (rowL_size _ _ _)) ?_
        | refine wpList_store_row rfl 32 _ _ rfl (w.heap.size + 1 + 1) (rowL 16 (ovS f g) 16) rfl rfl _ _ H2.out (HI.out _ (rowL_size _ _ _)) (by rw [← ZE.out (ovS f g), rowL_size, rowL_size]) (rowL_one _ _ _) ?_)
      exact bodyPost_ret (v := .agg (rowL 16 (ovS f g) 16)) (results_cell_row rfl _ _ (w.heap.size + 1 + 1) 32 (rowL 16 (ovS f g) 16) (0, 0) _ rfl H2.out.setRow Tryz.underlying32 rfl (HI.out _ (rowL_size _ _ _))) rfl ⟨rfl, below_setRow' hb (by omega) _⟩
end Go.Proofs.YtfohinlldchdpaaGreatDoor.Md
end

section
/- MdE, MdF, MdH, MdI beside Row: mdct.Back. -/
namespace Go.Proofs.YtfohinlldchdpaaGreatDoor.Md
open Go.RowKit Go.Proofs.YtfohinlldchdpaaGreatDoor.Row Go.Proofs.YtfohinlldchdpaaGreatDoor.Ang
set_option linter.unusedVariables false

theorem turn_as (n k i : Nat) (w : World) (hn : n < 32) (hk : k < 16) (h : (2 * n + 17) * (2 * k + 1) % 128 = i) :
    Calls Tryz.prog 67 #[.int .i64 n, .int .i64 k] w fun e w' => e = .returned (.int .i64 (i : Int)) ∧ w = w' := by
  subst h; exact turn_any n k w hn hk

set_option maxRecDepth 100000 in
set_option maxHeartbeats 1000000 in
theorem gatherB_any (T V : Array Value) (f : Nat → Int) (n bx bc : Nat) (w : World) (hn : n < 32) (hT : IsRow 16 f T) (hV : IsRow 128 tabS V) (hf : Le 1048576 f)
    (h1 : At w bx T 32) (h2 : At w bc V 111) :
    Calls Tryz.prog 139 #[.int .i64 n, .pointer (some ⟨bx, 0, none⟩), .pointer (some ⟨bc, 0, none⟩)] w fun e w' => e = .returned (.int .i64 (uS f n 16)) ∧ w = w' := by
  obtain ⟨Z, hZ, hZ0, hz, hi⟩ := zero_block
  have HT := Lib.hid hT
  have HV := Lib.hid hV
  have HP := Lib.hid hf
  have H1 := Lib.hid h1
  have H2 := Lib.hid h2
  have HI := Lib.hid hi
  clear hT hV hf h1 h2 hi hZ hZ0 hz
  unfold uS
  go_enter Tryz.func139, Tryz.ntmps139
  go_wp2_with (refine wpList_load_row rfl 32 _ rfl bx rfl _ _ (0, 0) _ H1.out Tryz.underlying32 rfl (HI.out _ HT.out.1) ?_)
  go_loop [5, 9] (fun s i => ∃ k : Nat, k ≤ 16 ∧ i = .int .i64 k ∧ s = .int .i64 (sum k fun k => f k * cS n k)) (fun _ i => 16 - (intOf i).toNat)
  case atStart => exact ⟨0, Nat.zero_le _, rfl, rfl⟩
  case round =>
    obtain ⟨k, hk, rfl, rfl⟩ := hrel
    obtain ⟨s1, s2⟩ := le_ab (sum_ab k (fun k => f k * cS n k) (1048576 * 32768) fun i hi => ab_prod (HP.out i (by omega)) (c_bd n i))
    by_cases hk16 : k < 16
    · have hc := HT.out.2.2 k hk16
      obtain ⟨i, hi⟩ : ∃ i, (2 * n + 17) * (2 * k + 1) % 128 = i := ⟨_, rfl⟩
      have hi1 : i < 128 := by omega
      have cV := HV.out.cell H2.out i hi1
      obtain ⟨x, hx⟩ : ∃ x, f k = x := ⟨_, rfl⟩
      obtain ⟨c, hcc⟩ : ∃ c, tabS i = c := ⟨_, rfl⟩
      obtain ⟨q1, q2⟩ := le_ab (ab_prod (HP.out k hk16) (c_bd n k))
      have hcs : cS n k = c := by unfold cS; rw [hi]; exact hcc
      rw [hx] at hc
      rw [hcc] at cV
      rw [hx, hcs] at q1 q2
      have hr := run_index Tryz.underlying32 hk16 hc
      have HS := Lib.hid (show sum (k + 1) (fun k => f k * cS n k) = sum k (fun k => f k * cS n k) + x * c by rw [sum, hx, hcs])
      have HK := Lib.hid hi
      generalize sum k (fun k => f k * cS n k) = s at *
      simp only [Int.reduceMul] at q1 q2 s1 s2
      have i1 : (i : Int) < 128 := by omega
      clear hc hx hcc hcs hi
      go_wp2_with (go_at_call 67; (with_reducible refine (turn_as n k i _ hn hk16 HK.out).mono ?_); rintro e w' ⟨rfl, rfl⟩)
      go_round
      case rel => exact ⟨k + 1, by omega, by go_num, by rw [HS.out]⟩
      case measure => simp [intOf]; omega
    · obtain rfl : k = 16 := by omega
      go_wp2
      go_ret
      exact ⟨rfl, rfl⟩

theorem shift16_as (x r : Int) (w : World) (h1 : -1099511627776 ≤ x) (h2 : x ≤ 1099511627776) (h : nr16 x = r) :
    Calls Tryz.prog 68 #[.int .i64 x, .int .i64 16] w fun e w' => e = .returned (.int .i64 r) ∧ w = w' := by
  subst h; exact shift_16 x w h1 h2

theorem gatherB_as (T V : Array Value) (f : Nat → Int) (n bx bc : Nat) (u : Int) (w : World) (hn : n < 32) (hT : IsRow 16 f T) (hV : IsRow 128 tabS V) (hf : Le 1048576 f)
    (h1 : At w bx T 32) (h2 : At w bc V 111) (hu : uS f n 16 = u) :
    Calls Tryz.prog 139 #[.int .i64 n, .pointer (some ⟨bx, 0, none⟩), .pointer (some ⟨bc, 0, none⟩)] w fun e w' => e = .returned (.int .i64 u) ∧ w = w' := by
  subst hu; exact gatherB_any T V f n bx bc w hn hT hV hf h1 h2

set_option maxRecDepth 100000 in
set_option maxHeartbeats 1000000 in
theorem at_any (T V W : Array Value) (f : Nat → Int) (n bx bc bg bw : Nat) (w : World) (hn : n < 32) (hT : IsRow 16 f T) (hV : IsRow 128 tabS V) (hW : IsRow 32 winS W) (hf : Le 1048576 f)
    (h1 : At w bx T 32) (h2 : At w bc V 111) (h3 : At w bw W 109) (h4 : w.cell? ⟨bg, 0, none⟩ = some (.func (.func 139) #[] #[.pointer (some ⟨bx, 0, none⟩), .pointer (some ⟨bc, 0, none⟩)])) :
    Calls Tryz.prog 140 #[.int .i64 n, .pointer (some ⟨bg, 0, none⟩), .pointer (some ⟨bw, 0, none⟩)] w fun e w' => e = .returned (.int .i64 (bS f n)) ∧ ∃ m, w' = w.drewN m := by
  have cw := hW.cell h3 n hn
  obtain ⟨u, hu⟩ : ∃ u, uS f n 16 = u := ⟨_, rfl⟩
  obtain ⟨g, hg⟩ : ∃ g, near u = g := ⟨_, rfl⟩
  obtain ⟨v, hv⟩ : ∃ v, winS n = v := ⟨_, rfl⟩
  obtain ⟨r, hr⟩ : ∃ r, nr16 (g * v) = r := ⟨_, rfl⟩
  obtain ⟨u1, u2⟩ := le_ab (u_bd hf n 16 (by omega))
  obtain ⟨p1, p2⟩ := le_ab (ab_prod (g_bd hf n) (win_bd n))
  have e : bS f n = r := by unfold bS gS; rw [hu, hg, hv, hr]
  rw [show gS f n = g by unfold gS; rw [hu, hg], hv] at p1 p2
  rw [hu] at u1 u2
  rw [hv] at cw
  rw [e]
  have HU := Lib.hid hu
  have HG := Lib.hid hg
  have HR := Lib.hid hr
  have HT := Lib.hid hT
  have HV := Lib.hid hV
  have HF := Lib.hid hf
  have H1 := Lib.hid h1
  have H2 := Lib.hid h2
  have k1 : (n : Int) < 32 := by omega
  simp only [Int.reduceMul] at p1 p2
  have hm : IntKind.i64.wrap (g * v) = g * v := IntWalk.i64_in _ (by omega)
  have w1 : -1099511627776 ≤ u := by omega
  have w2 : u ≤ 1099511627776 := by omega
  have w3 : -1099511627776 ≤ g * v := by omega
  have w4 : g * v ≤ 1099511627776 := by omega
  clear hu hg hv hr hT hV hW hf h1 h2 h3 e u1 u2 p1 p2
  go_enter Tryz.func140, Tryz.ntmps140
  go_wp2_with fail
  go_quiet (first
    | (go_at_call 139; with_reducible exact quiet_int (gatherB_as T V f n bx bc u _ hn HT.out HV.out HF.out (H1.out.drewN _) (H2.out.drewN _) HU.out))
    | (go_at_call 68; with_reducible exact quiet_int (shift15_as u g _ w1 w2 HG.out))
    | (go_at_call 68; with_reducible exact quiet_int (shift16_as (g * v) r _ w3 w4 HR.out)))
  go_wp2
  go_ret
  exact ⟨rfl, _, rfl⟩

/-- What holds of the memory all along: the waves, the results' rows, both halves. -/
def Bk (w w' : World) (T Y Z F L : Array Value) : Prop :=
  Below w.heap.size w w' ∧ w.heap.size + 1 + 1 + 1 + 1 + 1 ≤ w'.heap.size ∧ At w' w.heap.size T 32 ∧ At w' (w.heap.size + 1) Y 32 ∧ At w' (w.heap.size + 1 + 1) Z 32 ∧ At w' (w.heap.size + 1 + 1 + 1) F 32 ∧ At w' (w.heap.size + 1 + 1 + 1 + 1) L 32

theorem Bk.start (w : World) (T Z : Array Value) : Bk w (((((w.alloc (.cells T 32)).alloc (.cells Z 32)).alloc (.cells Z 32)).alloc (.cells Z 32)).alloc (.cells Z 32)) T Z Z Z Z := by
  refine ⟨(((((Below.refl _ _).alloc (Nat.le_refl _) _).alloc (by simp) _).alloc (by simp; omega) _).alloc (by simp; omega) _).alloc (by simp; omega) _, by simp, ((((At.new _ _ _).alloc _).alloc _).alloc _).alloc _, ?_, ?_, ?_, ?_⟩
  · have := (((At.new (w.alloc (.cells T 32)) Z 32).alloc (.cells Z 32)).alloc (.cells Z 32)).alloc (.cells Z 32)
    simpa using this
  · have := ((At.new ((w.alloc (.cells T 32)).alloc (.cells Z 32)) Z 32).alloc (.cells Z 32)).alloc (.cells Z 32)
    simpa using this
  · have := (At.new (((w.alloc (.cells T 32)).alloc (.cells Z 32)).alloc (.cells Z 32)) Z 32).alloc (.cells Z 32)
    simpa using this
  · have := At.new ((((w.alloc (.cells T 32)).alloc (.cells Z 32)).alloc (.cells Z 32)).alloc (.cells Z 32)) Z 32
    simpa using this

theorem Bk.below {w w1 w2 : World} {T Y Z F L : Array Value} (h : Bk w w1 T Y Z F L) (hb : Below w1.heap.size w1 w2) : Bk w w2 T Y Z F L := by
  obtain ⟨h0, h1, h2, h3, h4, h5, h6⟩ := h
  have := hb.size
  exact ⟨below_trans h0 hb (by omega), by omega, h2.below hb (by omega), h3.below hb (by omega), h4.below hb (by omega), h5.below hb (by omega), h6.below hb (by omega)⟩

theorem Bk.alloc {w w1 : World} {T Y Z F L : Array Value} (h : Bk w w1 T Y Z F L) (o : Obj) : Bk w (w1.alloc o) T Y Z F L := by
  obtain ⟨h0, h1, h2, h3, h4, h5, h6⟩ := h
  exact ⟨h0.alloc (by omega) _, by simp; omega, h2.alloc _, h3.alloc _, h4.alloc _, h5.alloc _, h6.alloc _⟩

/-- What holds while two rows are handed back. -/
def Ret2 (w : World) (F L : Array Value) (w' : World) : Prop :=
  Below w.heap.size w w' ∧ (∃ A : Array Value, A.size = 16 ∧ At w' (w.heap.size + 1) A 32) ∧ (∃ A : Array Value, A.size = 16 ∧ At w' (w.heap.size + 1 + 1) A 32) ∧ At w' (w.heap.size + 1 + 1 + 1) F 32 ∧ At w' (w.heap.size + 1 + 1 + 1 + 1) L 32

theorem at_as (T V W : Array Value) (f : Nat → Int) (n bx bc bg bw : Nat) (x r : Int) (w : World) (hx : x = n) (hn : n < 32) (hT : IsRow 16 f T) (hV : IsRow 128 tabS V) (hW : IsRow 32 winS W) (hf : Le 1048576 f)
    (h1 : At w bx T 32) (h2 : At w bc V 111) (h3 : At w bw W 109) (h4 : w.cell? ⟨bg, 0, none⟩ = some (.func (.func 139) #[] #[.pointer (some ⟨bx, 0, none⟩), .pointer (some ⟨bc, 0, none⟩)])) (hr : bS f n = r) :
    Calls Tryz.prog 140 #[.int .i64 x, .pointer (some ⟨bg, 0, none⟩), .pointer (some ⟨bw, 0, none⟩)] w fun e w' => e = .returned (.int .i64 r) ∧ ∃ m, w' = w.drewN m := by
  subst hx hr; exact at_any T V W f n bx bc bg bw w hn hT hV hW hf h1 h2 h3 h4

/-- What stands all along while both halves are filled. -/
def BkS (w : World) (T Z : Array Value) (bc bg bw : Nat) (w' : World) : Prop :=
  Below w.heap.size w w' ∧ At w' w.heap.size T 32 ∧ At w' (w.heap.size + 1) Z 32 ∧ At w' (w.heap.size + 1 + 1) Z 32 ∧ At w' bw (rowL 32 winS 32) 109 ∧ At w' bc (rowL 128 tabS 128) 111 ∧
  w'.cell? ⟨bg, 0, none⟩ = some (.func (.func 139) #[] #[.pointer (some ⟨w.heap.size, 0, none⟩), .pointer (some ⟨bc, 0, none⟩)])

theorem BkS.drew {w w' : World} {T Z : Array Value} {bc bg bw : Nat} (h : BkS w T Z bc bg bw w') : BkS w T Z bc bg bw w'.drew := ⟨h.1.drew, h.2⟩

theorem BkS.drewN {w w' : World} {T Z : Array Value} {bc bg bw : Nat} (h : BkS w T Z bc bg bw w') (n : Nat) : BkS w T Z bc bg bw (w'.drewN n) := ⟨below_drewN h.1 n, h.2⟩

theorem BkS.set {w w' : World} {T Z : Array Value} {bc bg bw b i : Nat} {v : Value} (h : BkS w T Z bc bg bw w') (h1 : b = w.heap.size + 1 + 1 + 1 ∨ b = w.heap.size + 1 + 1 + 1 + 1) (h2 : w.heap.size + 1 + 1 + 1 + 1 + 1 ≤ bc) (h3 : w.heap.size + 1 + 1 + 1 + 1 + 1 ≤ bg) (h4 : w.heap.size + 1 + 1 + 1 + 1 + 1 ≤ bw) :
    BkS w T Z bc bg bw (w'.setCell ⟨b, i, none⟩ v) :=
  ⟨h.1.setCell (by dsimp only; omega) _, h.2.1.setCell_other (by dsimp only; omega), h.2.2.1.setCell_other (by dsimp only; omega), h.2.2.2.1.setCell_other (by dsimp only; omega), h.2.2.2.2.1.setCell_other (by dsimp only; omega), h.2.2.2.2.2.1.setCell_other (by dsimp only; omega),
    (cell_set_other _ _ _ _ (by dsimp only; omega)).trans h.2.2.2.2.2.2⟩

theorem at_S {T Z : Array Value} {f : Nat → Int} {n bc bg bw : Nat} {x r : Int} {w w' : World} (hS : BkS w T Z bc bg bw w') (hx : x = n) (hn : n < 32) (hT : IsRow 16 f T) (hf : Le 1048576 f) (hr : bS f n = r) :
    Calls Tryz.prog 140 #[.int .i64 x, .pointer (some ⟨bg, 0, none⟩), .pointer (some ⟨bw, 0, none⟩)] w' fun e w2 => e = .returned (.int .i64 r) ∧ ∃ m, w2 = w'.drewN m :=
  at_as T _ _ f n w.heap.size bc bg bw x r w' hx hn hT (isRow 128 tabS) (isRow 32 winS) hf hS.2.1 hS.2.2.2.2.2.1 hS.2.2.2.2.1 hS.2.2.2.2.2.2 hr

def BkInv (w : World) (T Z : Array Value) (bc bg bw : Nat) (p q : Nat → Int) (k : Nat) (w' : World) : Prop :=
  BkS w T Z bc bg bw w' ∧ At w' (w.heap.size + 1 + 1 + 1) (rowL 16 p k) 32 ∧ At w' (w.heap.size + 1 + 1 + 1 + 1) (rowL 16 q k) 32

theorem bk_start (w w3 : World) (T Z Y C : Array Value) (p q : Nat → Int) (h : Bk w w3 T Z Z Z Z) (hp : rowL 16 p 0 = Z) (hq : rowL 16 q 0 = Z) :
    BkInv w T Z (w3.heap.size + 1) (w3.heap.size + 1 + 1) w3.heap.size p q 0
      (((((w3.alloc (.cells Y 109)).alloc (.cells C 111)).setRow w3.heap.size (rowL 32 winS 32)).setRow (w3.heap.size + 1) (rowL 128 tabS 128)).alloc
        (.cells #[.func (.func 139) #[] #[.pointer (some ⟨w.heap.size, 0, none⟩), .pointer (some ⟨w3.heap.size + 1, 0, none⟩)]] 106)) := by
  obtain ⟨h0, h1, h2, h3, h4, h5, h6⟩ := h
  have a1 : At ((w3.alloc (.cells Y 109)).alloc (.cells C 111)) w3.heap.size Y 109 := heap_alloc2_old _ _ _
  have a2 : At ((w3.alloc (.cells Y 109)).alloc (.cells C 111)) (w3.heap.size + 1) C 111 := heap_alloc2_new _ _ _
  have hk : ∀ {b : Nat} {A : Array Value} {t : TypeId}, At w3 b A t → At (((((w3.alloc (.cells Y 109)).alloc (.cells C 111)).setRow w3.heap.size (rowL 32 winS 32)).setRow (w3.heap.size + 1) (rowL 128 tabS 128)).alloc
        (.cells #[.func (.func 139) #[] #[.pointer (some ⟨w.heap.size, 0, none⟩), .pointer (some ⟨w3.heap.size + 1, 0, none⟩)]] 106)) b A t := fun hA => by
    have := hA.lt
    exact ((((hA.alloc _).alloc _).setRow_other (by omega)).setRow_other (by omega)).alloc _
  refine ⟨⟨?_, hk h2, hk h3, hk h4, ?_, ?_, ?_⟩, by rw [hp]; exact hk h5, by rw [hq]; exact hk h6⟩
  · exact (below_setRow' (below_setRow' ((h0.alloc (by omega) _).alloc (by simp; omega) _) (by omega) _) (by omega) _).alloc (by rw [size_setRow, size_setRow]; simp; omega) _
  · exact (a1.setRow.setRow_other (by omega)).alloc _
  · exact ((a2.setRow_other (by omega)).setRow).alloc _
  · have := At.new ((((w3.alloc (.cells Y 109)).alloc (.cells C 111)).setRow w3.heap.size (rowL 32 winS 32)).setRow (w3.heap.size + 1) (rowL 128 tabS 128))
      #[.func (.func 139) #[] #[.pointer (some ⟨w.heap.size, 0, none⟩), .pointer (some ⟨w3.heap.size + 1, 0, none⟩)]] 106
    rw [size_setRow, size_setRow, World.size_alloc, World.size_alloc] at this
    exact cell_of_row _ _ 0 _ _ _ this

set_option maxRecDepth 100000 in
set_option maxHeartbeats 1000000 in
theorem back_yes (T : Array Value) (f : Nat → Int) (hT : IsRow 16 f T) (hf : Le 1048576 f) (w : World) :
    Calls Tryz.prog 88 #[.agg T] w fun e w' => e = .returned (.tuple #[.agg (rowL 16 (bS f) 16), .agg (rowL 16 (fun i => bS f (16 + i)) 16)]) ∧ Below w.heap.size w w' := by
  obtain ⟨Z, hZ, hZ0, hz, hi⟩ := zero_block
  obtain ⟨Y, hY, hY0, hy, hj⟩ := zero_32
  obtain ⟨C, hC, hC0, hc, hl⟩ := zero_128
  have HT := Lib.hid hT
  have HF := Lib.hid hf
  have HZ := Lib.hid hZ
  have HY := Lib.hid hY
  have HC := Lib.hid hC
  have ZE := Lib.hid hZ0
  have HI := Lib.hid hi
  have HJ := Lib.hid hj
  have HL := Lib.hid hl
  have HS := Lib.hid (Bk.start w T Z)
  clear hT hZ0 hi hf hZ hY hC hY0 hC0 hj hl
  go_enter Tryz.func88, Tryz.ntmps88
  go_wp2_with (refine wpList_load_row rfl 32 _ rfl w.heap.size rfl _ _ (0, 0) _ HS.out.2.2.1 Tryz.underlying32 rfl (HI.out _ HT.out.1) ?_)
  refine (held_yes T f HT.out HF.out _).mono ?_
  rintro e w1 ⟨rfl, hw1⟩
  have H1 := Lib.hid (HS.out.below hw1)
  clear HS hw1
  go_wp2_with fail
  refine (win_any _).mono ?_
  rintro e w2 ⟨rfl, hw2⟩
  have H2 := Lib.hid (H1.out.below hw2)
  clear H1 hw2
  go_wp2_with fail
  refine (tab_any _).mono ?_
  rintro e w3 ⟨rfl, hw3⟩
  have H3 := Lib.hid (H2.out.below hw3)
  clear H2 hw3
  have hmf : ∀ (fn : Fn) (first cap : Array Value) (w : World), (Instr.makeFunc fn first cap).run Tryz.prog w = .ok (.func fn first cap) w := fun _ _ _ _ => rfl
  go_wp2_with (first
    | refine wpList_store_row rfl 109 _ _ rfl w3.heap.size (rowL 32 winS 32) rfl rfl 109 Y (heap_alloc2_old w3 (.cells Y 109) (.cells C 111)) (HJ.out _ (rowL_size _ _ _)) (by rw [rowL_size, HY.out.1]) (rowL_one _ _ _) ?_
    | (refine wpList_store_row rfl 111 _ _ rfl (w3.heap.size + 1) (rowL 128 tabS 128) rfl rfl 111 C ((Go.setRow_other _ _ _ _ (by omega)).trans (heap_alloc2_new w3 (.cells Y 109) (.cells C 111))) (HL.out _ (rowL_size _ _ _)) (by rw [rowL_size, HC.out.1]) (rowL_one _ _ _) ?_
       obtain ⟨w4, hw4⟩ : ∃ w4, (((w3.alloc (.cells Y 109)).alloc (.cells C 111)).setRow w3.heap.size (rowL 32 winS 32)).setRow (w3.heap.size + 1) (rowL 128 tabS 128) = w4 := ⟨_, rfl⟩
       rw [hw4]
       have HW := Lib.hid hw4
       clear hw4))
  have hstart := bk_start w w3 T Z Y C (bS f) (fun i => bS f (16 + i)) H3.out (ZE.out _) (ZE.out _)
  have hsz : w4.heap.size = w3.heap.size + 1 + 1 := by rw [← HW.out, size_setRow, size_setRow]; simp
  have hge := H3.out.2.1
  rw [HW.out] at hstart
  rw [hsz]
  clear H3 HW hsz
  revert hstart hge
  generalize w4.alloc _ = W
  have gbg : w3.heap.size + 1 ≤ w3.heap.size + 1 + 1 := Nat.le_succ _
  have gbc : w3.heap.size ≤ w3.heap.size + 1 := Nat.le_succ _
  revert gbg gbc
  generalize w3.heap.size + 1 + 1 = bg
  generalize w3.heap.size + 1 = bc
  generalize w3.heap.size = bw
  intro gbg gbc hstart hge
  go_loopw [20] (fun i w' => ∃ k : Nat, k ≤ 16 ∧ i = .int .i64 k ∧ BkInv w T Z bc bg bw (bS f) (fun i => bS f (16 + i)) k w') (fun i _ => 16 - (intOf i).toNat)
  case atStart => exact ⟨0, Nat.zero_le _, rfl, hstart⟩
  case round =>
    obtain ⟨k, hk, rfl, hinv⟩ := hrel
    clear hstart
    obtain ⟨hs, h3, h4⟩ := hinv
    have HS := Lib.hid hs
    have H3 := Lib.hid h3
    have H4 := Lib.hid h4
    by_cases hk16 : k < 16
    · have c3 := rowL_cell h3 k hk16
      have f3 := h3.frozen k
      have c4 := rowL_cell h4 k hk16
      have f4 := h4.frozen k
      obtain ⟨r, hr⟩ : ∃ r, bS f k = r := ⟨_, rfl⟩
      obtain ⟨s, hs'⟩ : ∃ s, bS f (16 + k) = s := ⟨_, rfl⟩
      have HR := Lib.hid hr
      have HQ := Lib.hid hs'
      have k1 : (k : Int) < 16 := by omega
      have k0 : (0 : Int) ≤ (k : Int) := by omega
      have hn : IntKind.i64.wrap ((k : Int) + 16) = (k : Int) + 16 := IntWalk.i64_in _ (by omega)
      have hkk : (k : Int) + 16 = ((16 + k : Nat) : Int) := by omega
      have HK := Lib.hid hkk
      clear h3 h4 hs hr hs' hkk
      go_wp2_with fail
      go_region_held3 (BkS w T Z bc bg bw) (first | assumption | exact HS.out | exact HS.out.drew | (exact BkS.drewN (by assumption) _) | (exact BkS.drew (by assumption)) | (exact BkS.set (by assumption) (by omega) (by omega) (by omega) (by omega)))
        (first
          | (go_at_call 140; (with_reducible refine (at_S (w := w) (Z := Z) (bc := bc) (x := (k : Int)) (n := k) (r := r) (by assumption) rfl (by omega) HT.out HF.out HR.out).mono ?_); rintro e w' ⟨rfl, m, rfl⟩)
          | (go_at_call 140; (with_reducible refine (at_S (w := w) (Z := Z) (bc := bc) (x := (k : Int) + 16) (n := 16 + k) (r := s) (by assumption) HK.out (by omega) HT.out HF.out HQ.out).mono ?_); rintro e w' ⟨rfl, m', rfl⟩))
      clear hn
      go_wp2
      go_roundw
      case rel =>
        refine ⟨k + 1, by omega, by go_num, by first | assumption | exact (((HS.out.drew.drewN m).drewN m').set (.inl rfl) (by omega) (by omega) (by omega)).set (.inr rfl) (by omega) (by omega) (by omega), ?_, ?_⟩
        · rw [← HR.out]
          exact At.setCell_other (At.put H3.out hk16) (by dsimp only; omega)
        · rw [← HQ.out]
          exact At.put (f := fun i => bS f (16 + i)) (At.setCell_other H4.out (by dsimp only; omega)) hk16
      case measure => simp [intOf]; omega
    · clear h3 h4 hs
      obtain rfl : k = 16 := by omega
      have B1 := Lib.hid HS.out.1
      have G1 := Lib.hid HS.out.2.2.1
      have G2 := Lib.hid HS.out.2.2.2.1
      obtain ⟨F, hF⟩ : ∃ F, rowL 16 (bS f) 16 = F := ⟨_, rfl⟩
      obtain ⟨L, hL⟩ : ∃ L, rowL 16 (fun i => bS f (16 + i)) 16 = L := ⟨_, rfl⟩
      have SF := Lib.hid (show F.size = 16 by rw [← hF, rowL_size])
      have SL := Lib.hid (show L.size = 16 by rw [← hL, rowL_size])
      have OF := Lib.hid (show F.all (·.oneCell') = true by rw [← hF]; exact rowL_one _ _ _)
      have OL := Lib.hid (show L.all (·.oneCell') = true by rw [← hL]; exact rowL_one _ _ _)
      have G3 := Lib.hid (show At _ _ F _ by rw [← hF]; exact H3.out)
      have G4 := Lib.hid (show At _ _ L _ by rw [← hL]; exact H4.out)
      have EF := Lib.hid hF
      have EL := Lib.hid hL
      clear HS H3 H4 hF hL
      go_wp2_with fail
      refine wp_region_noPanic ?_
      refine wp_region_held_drew (S := Ret2 w F L) (by kernel_rfl) ?_ (fun hHeld => ?_)
      · exact ⟨B1.out.drew, ⟨_, HZ.out.1, G1.out⟩, ⟨_, HZ.out.1, G2.out⟩, G3.out, G4.out⟩
      refine wpAnyH_take (i := 0) (oi := _) (v := .agg F) rfl (by kernel_rfl) (by kernel_rfl) (by kernel_rfl) (fun _ _ _ h => h) (yields_load (by rfl) 32 _ rfl (w.heap.size + 1 + 1 + 1) rfl F _ _ (fun _ h => h.2.2.2.1) Tryz.underlying32 (HI.out _ SF.out)) hHeld ?_
      show wpAnyH _ _ _ _ _ _ _ (Act.put _ (some 35) _) _
      simp only [Act.put, List.setIfInBounds_toArray, List.set_cons_zero, List.set_cons_succ]
      refine wpAnyH_take (i := 1) (oi := _) (v := .agg L) rfl (by kernel_rfl) (by kernel_rfl) (by kernel_rfl) (fun _ _ _ h => h) (yields_load (by rfl) 32 _ rfl (w.heap.size + 1 + 1 + 1 + 1) rfl L _ _ (fun _ h => h.2.2.2.2) Tryz.underlying32 (HI.out _ SL.out)) hHeld ?_
      show wpAnyH _ _ _ _ _ _ _ (Act.put _ (some 36) _) _
      simp only [Act.put, List.setIfInBounds_toArray, List.set_cons_zero, List.set_cons_succ]
      refine wpAnyH_ready (rs := [2]) (by kernel_rfl) (by simp) ?_
      refine AllReadyH.cons rfl (fun K hK => ?_) AllReadyH.nil
      rw [if_pos (by rfl)]
      obtain ⟨b1, ⟨A1, hA1, a1⟩, ⟨A2, hA2, a2⟩, a3, a4⟩ := hHeld
      refine wp_store_row 32 _ _ rfl (w.heap.size + 1) F rfl rfl 32 A1 a1 (HI.out _ SF.out) (by rw [hA1, SF.out]) OF.out ?_
      refine hK.out _ _ ⟨below_setRow' b1 (by omega) _, ⟨_, SF.out, a1.setRow⟩, ⟨_, hA2, a2.setRow_other (by omega)⟩, a3.setRow_other (by omega), a4.setRow_other (by omega)⟩ (fun _ => ?_)
      clear hK K
      show wpAnyH _ _ _ _ _ _ _ (Act.put _ none _) _
      simp only [Act.put]
      refine wpAnyH_ready (rs := [3]) (by kernel_rfl) (by simp) ?_
      refine AllReadyH.cons rfl (fun K hK => ?_) AllReadyH.nil
      rw [if_pos (by rfl)]
      refine wp_store_row 32 _ _ rfl (w.heap.size + 1 + 1) L rfl rfl 32 A2 (a2.setRow_other (by omega)) (HI.out _ SL.out) (by rw [hA2, SL.out]) OL.out ?_
      refine hK.out _ _ ⟨below_setRow' (below_setRow' b1 (by omega) _) (by omega) _, ⟨_, SF.out, a1.setRow.setRow_other (by omega)⟩, ⟨_, SL.out, (a2.setRow_other (by omega)).setRow⟩, (a3.setRow_other (by omega)).setRow_other (by omega), (a4.setRow_other (by omega)).setRow_other (by omega)⟩ (fun _ => ?_)
      clear hK K
      show wpAnyH _ _ _ _ _ _ _ (Act.put _ none _) _
      simp only [Act.put]
      refine wpAnyH_done (by kernel_rfl) ?_ _
      refine NoPanic.normal ?_
      have F1 := Lib.hid (a1.setRow (C := F) |>.setRow_other (g := w.heap.size + 1 + 1) (C := L) (by omega))
      have F2 := Lib.hid ((a2.setRow_other (g := w.heap.size + 1) (C := F) (by omega)).setRow (C := L))
      have FB := Lib.hid (below_setRow' (below_setRow' b1 (Nat.le_succ _) F) (show w.heap.size ≤ w.heap.size + 1 + 1 by omega) L)
      clear a1 a2 a3 a4 b1 hA1 hA2
      go_wp2
      exact bodyPost_ret (v := .tuple #[.agg F, .agg L]) (results_rows rfl _ _ (w.heap.size + 1) (w.heap.size + 1 + 1) F L _ _ rfl rfl F1.out F2.out Tryz.underlying32 (HI.out _ SF.out) (HI.out _ SL.out)) rfl ⟨by rw [EF.out, EL.out], FB.out⟩
end Go.Proofs.YtfohinlldchdpaaGreatDoor.Md
end

section
/- MdD, MdE, MdF, MdG beside Row: mdct.windowed, mdct.Waves. -/
namespace Go.Proofs.YtfohinlldchdpaaGreatDoor.Md
open Go.RowKit Go.Proofs.YtfohinlldchdpaaGreatDoor.Row Go.Proofs.YtfohinlldchdpaaGreatDoor.Ang
set_option linter.unusedVariables false

/-- The first k numbers of both halves, the others 0. -/
def half (p : Nat → Int) (k i : Nat) : Int := if i % 16 < k then p i else 0

theorem half_0 (p : Nat → Int) (i : Nat) : half p 0 i = 0 := by unfold half; rw [if_neg (by omega)]

theorem half_all (p : Nat → Int) (i : Nat) : half p 16 i = p i := by unfold half; rw [if_pos (by omega)]

theorem half_next (p : Nat → Int) (k i : Nat) (hk : k < 16) (hi : i < 32) : (if i = k + 16 then p (k + 16) else if i = k then p k else half p k i) = half p (k + 1) i := by
  unfold half
  by_cases h1 : i = k + 16
  · subst h1; rw [if_pos rfl, if_pos (by omega)]
  · by_cases h2 : i = k
    · subst h2; rw [if_neg h1, if_pos rfl, if_pos (by omega)]
    · rw [if_neg h1, if_neg h2]
      by_cases h3 : i % 16 < k
      · rw [if_pos h3, if_pos (by omega)]
      · rw [if_neg h3, if_neg (by omega)]

/-- What holds of the memory while windowed's row is filled: at block b stands the window. -/
def WinInv (w w' : World) (T U Z : Array Value) (b : Nat) (p : Nat → Int) (k : Nat) : Prop :=
  Below w.heap.size w w' ∧ At w' w.heap.size T 32 ∧ At w' (w.heap.size + 1) U 32 ∧ At w' (w.heap.size + 1 + 1) Z 109 ∧ At w' b (rowL 32 winS 32) 109 ∧ ∃ X, IsRow 32 (half p k) X ∧ At w' (w.heap.size + 1 + 1 + 1) X 109

theorem win_start (w w1 : World) (T U Z : Array Value) (p : Nat → Int) (hZ : IsRow 32 (fun _ => 0) Z)
    (h : Below (w.heap.size + 1 + 1 + 1 + 1) ((((w.alloc (.cells T 32)).alloc (.cells U 32)).alloc (.cells Z 109)).alloc (.cells Z 109)) w1) :
    WinInv w (w1.alloc (.cells (rowL 32 winS 32) 109)) T U Z w1.heap.size p 0 := by
  have hs := h.size
  have hb : Below w.heap.size w ((((w.alloc (.cells T 32)).alloc (.cells U 32)).alloc (.cells Z 109)).alloc (.cells Z 109)) :=
    ((((Below.refl _ _).alloc (Nat.le_refl _) _).alloc (by simp) _).alloc (by simp; omega) _).alloc (by simp; omega) _
  have hb1 : Below w.heap.size w w1 := hb.trans (h.mono (by omega))
  refine ⟨hb1.alloc hb1.size _, ?_, ?_, ?_, At.new _ _ _, Z, hZ.ext fun i _ => (half_0 p i).symm, ?_⟩
  · exact (((((At.new _ _ _).alloc _).alloc _).alloc _).below h (by omega)).alloc _
  · have := ((At.new (w.alloc (.cells T 32)) U 32).alloc (.cells Z 109)).alloc (.cells Z 109)
    simp only [World.size_alloc] at this
    exact (this.below h (by omega)).alloc _
  · have := (At.new ((w.alloc (.cells T 32)).alloc (.cells U 32)) Z 109).alloc (.cells Z 109)
    simp only [World.size_alloc] at this
    exact (this.below h (by omega)).alloc _
  · have := At.new (((w.alloc (.cells T 32)).alloc (.cells U 32)).alloc (.cells Z 109)) Z 109
    simp only [World.size_alloc] at this
    exact (this.below h (by omega)).alloc _

set_option maxHeartbeats 1000000 in
theorem windowed_any (T U : Array Value) (f g : Nat → Int) (hT : IsRow 16 f T) (hU : IsRow 16 g U) (hf : Le 1048576 f) (hg : Le 1048576 g) (w : World) :
    Calls Tryz.prog 64 #[.agg T, .agg U] w fun e w' => e = .returned (.agg (rowL 32 (pS f g) 32)) ∧ Below w.heap.size w w' := by
  obtain ⟨Z, hZ, hZ0, hz, hi⟩ := zero_32
  have HT := Lib.hid hT
  have HU := Lib.hid hU
  have HF := Lib.hid hf
  have HG := Lib.hid hg
  have HZ := Lib.hid hZ
  have HI := Lib.hid hi
  have HW := Lib.hid win_any
  obtain ⟨V, hV⟩ : ∃ V, rowL 32 winS 32 = V := ⟨_, rfl⟩
  have hVs : V.size = 32 := by rw [← hV, rowL_size]
  have HV := Lib.hid hV
  have HVs := Lib.hid hVs
  clear hT hU hZ0 hi hf hg hZ hV hVs
  go_enter Tryz.func64, Tryz.ntmps64
  go_wp2_with (first
    | (go_at_call 109; refine (win_any _).mono ?_; rintro e w1 ⟨rfl, hw1⟩)
    | refine wpList_store_row rfl 109 _ _ rfl w1.heap.size (rowL 32 winS 32) rfl rfl _ _ (heap_alloc_new _ _) (HI.out _ (rowL_size _ _ _)) (by rw [rowL_size, HZ.out.1]) (rowL_one _ _ _) ?_)
  rw [World.setRow_alloc_new]
  have hbW := win_start w w1 T U Z (pS f g) HZ.out (by simpa using hw1)
  have hbb : w.heap.size + 1 + 1 + 1 + 1 ≤ w1.heap.size := by simpa using hw1.size
  revert hbW hbb
  generalize w1.alloc (.cells (rowL 32 winS 32) 109) = W
  generalize w1.heap.size = b
  intro hbW hbb
  clear hw1
  go_loopw [9] (fun i w' => ∃ k : Nat, k ≤ 16 ∧ i = .int .i64 k ∧ WinInv w w' T U Z b (pS f g) k) (fun i _ => 16 - (intOf i).toNat)
  case atStart => exact ⟨0, Nat.zero_le _, rfl, hbW⟩
  case round =>
    obtain ⟨k, hk, rfl, hinv⟩ := hrel
    clear hbW
    obtain ⟨hb, h0, h1, h2, h4, X, hX, h3⟩ := hinv
    have HX := Lib.hid hX
    have H0 := Lib.hid h0
    have H1 := Lib.hid h1
    have H2 := Lib.hid h2
    have H3 := Lib.hid h3
    have H4 := Lib.hid h4
    by_cases hk16 : k < 16
    · have c0 := HT.out.cell h0 k hk16
      have c4 := (isRow 32 winS).cell h4 k (by omega)
      have c3 := hX.cell h3 k (by omega)
      have f3 := h3.frozen k
      obtain ⟨x, hx⟩ : ∃ x, f k = x := ⟨_, rfl⟩
      obtain ⟨v, hv⟩ : ∃ x, winS k = x := ⟨_, rfl⟩
      obtain ⟨r, hr⟩ : ∃ r, near (x * v) = r := ⟨_, rfl⟩
      obtain ⟨p1, p2⟩ := le_ab (ab_prod (HF.out k hk16) (win_bd k))
      rw [hx] at c0
      rw [hv] at c4
      rw [hx, hv] at p1 p2
      simp only [Int.reduceMul] at p1 p2
      have HR := Lib.hid hr
      have HP := Lib.hid (show pS f g k = r by unfold pS xs2; rw [if_pos hk16, hx, hv, hr])
      have k1 : (k : Int) < 16 := by omega
      have k2 : (k : Int) < 32 := by omega
      have k0 : (0 : Int) ≤ (k : Int) := by omega
      have hs : IntKind.i64.wrap (x * v) = x * v := IntWalk.i64_in _ (by omega)
      clear h0 h1 h2 h3 h4 hx hv hr hX
      go_wp2_with fail
      go_region_held3 (fun w' => w'.cell? ⟨w.heap.size, k, none⟩ = some (.int .i64 x) ∧ w'.cell? ⟨b, k, none⟩ = some (.int .i64 v)) (first | assumption | exact ⟨c0, c4⟩ | exact cells2 ⟨c0, c4⟩ (by dsimp only; omega) (by dsimp only; omega))
        ((go_at_call 68; (with_reducible refine (shift15_as (x * v) r _ (by omega) (by omega) HR.out).mono ?_); rintro e w' ⟨rfl, rfl⟩))
      have B1 : Below w.heap.size w (wr.setCell ⟨w.heap.size + 1 + 1 + 1, k, none⟩ (.int .i64 r)).drew := (hb.setCell (by dsimp only; omega) _).drew
      have G0 : At (wr.setCell ⟨w.heap.size + 1 + 1 + 1, k, none⟩ (.int .i64 r)).drew w.heap.size T 32 := H0.out.setCell_other (by dsimp only; omega)
      have G1 : At (wr.setCell ⟨w.heap.size + 1 + 1 + 1, k, none⟩ (.int .i64 r)).drew (w.heap.size + 1) U 32 := H1.out.setCell_other (by dsimp only; omega)
      have G2 : At (wr.setCell ⟨w.heap.size + 1 + 1 + 1, k, none⟩ (.int .i64 r)).drew (w.heap.size + 1 + 1) Z 109 := H2.out.setCell_other (by dsimp only; omega)
      have G4 : At (wr.setCell ⟨w.heap.size + 1 + 1 + 1, k, none⟩ (.int .i64 r)).drew b (rowL 32 winS 32) 109 := H4.out.setCell_other (by dsimp only; omega)
      have G3 : At (wr.setCell ⟨w.heap.size + 1 + 1 + 1, k, none⟩ (.int .i64 r)).drew (w.heap.size + 1 + 1 + 1) (X.setIfInBounds k (.int .i64 r)) 109 := H3.out.setCell
      have HX1 := Lib.hid (HX.out.set (k := k) r (by omega))
      revert B1 G0 G1 G2 G3 G4
      generalize (wr.setCell ⟨w.heap.size + 1 + 1 + 1, k, none⟩ (.int .i64 r)).drew = W1
      intro B1 G0 G1 G2 G4 G3
      clear c0 c4 c3 f3 hs p1 p2 HR H0 H1 H2 H3 H4 hb
      have H0 := Lib.hid G0
      have H1 := Lib.hid G1
      have H2 := Lib.hid G2
      have H3 := Lib.hid G3
      have H4 := Lib.hid G4
      have c0 := HU.out.cell G1 k hk16
      have c4 := (isRow 32 winS).cell G4 (k + 16) (by omega)
      have c3 := HX1.out.cell G3 (k + 16) (by omega)
      have f3 := G3.frozen (k + 16)
      obtain ⟨y, hy⟩ : ∃ x, g k = x := ⟨_, rfl⟩
      obtain ⟨u, hu⟩ : ∃ x, winS (k + 16) = x := ⟨_, rfl⟩
      obtain ⟨s, hs⟩ : ∃ r, near (y * u) = r := ⟨_, rfl⟩
      obtain ⟨p1, p2⟩ := le_ab (ab_prod (HG.out k hk16) (win_bd (k + 16)))
      rw [hy] at c0
      rw [hu] at c4
      rw [hy, hu] at p1 p2
      simp only [Int.reduceMul] at p1 p2
      have HS := Lib.hid hs
      have HQ := Lib.hid (show pS f g (k + 16) = s by unfold pS xs2; rw [if_neg (by omega), show k + 16 - 16 = k by omega, hy, hu, hs])
      have k3 : (k : Int) + 16 < 32 := by omega
      have k4 : (0 : Int) ≤ (k : Int) + 16 := by omega
      have hm : IntKind.i64.wrap (y * u) = y * u := IntWalk.i64_in _ (by omega)
      have hn : IntKind.i64.wrap ((k : Int) + 16) = (k : Int) + 16 := IntWalk.i64_in _ (by omega)
      have ht : ((k : Int) + 16).toNat = k + 16 := by omega
      clear G0 G1 G2 G3 G4 hy hu hs
      go_wp2_with fail
      go_region_held3 (fun w' => w'.cell? ⟨w.heap.size + 1, k, none⟩ = some (.int .i64 y) ∧ w'.cell? ⟨b, k + 16, none⟩ = some (.int .i64 u)) (first | assumption | exact ⟨c0, c4⟩ | exact cells2 ⟨c0, c4⟩ (by dsimp only; omega) (by dsimp only; omega))
        ((go_at_call 68; (with_reducible refine (shift15_as (y * u) s _ (by omega) (by omega) HS.out).mono ?_); rintro e w' ⟨rfl, rfl⟩))
      clear hn ht
      go_wp2
      go_roundw
      case rel => exact ⟨k + 1, by omega, by go_num, (B1.setCell (by dsimp only; omega) _).drew, H0.out.setCell_other (by dsimp only; omega), H1.out.setCell_other (by dsimp only; omega), H2.out.setCell_other (by dsimp only; omega), H4.out.setCell_other (by dsimp only; omega), _, (HX1.out.set (k := k + 16) s (by omega)).ext fun i hi => by rw [← half_next _ k i hk16 hi, HP.out, HQ.out], H3.out.setCell⟩
      case measure => simp [intOf]; omega
    · clear h0 h1 h2 h3 h4
      obtain rfl : k = 16 := by omega
      obtain rfl : X = rowL 32 (pS f g) 32 := hX.eq (isRow _ _) fun i _ => half_all _ i
      clear hX
      go_wp2_with (first
        | refine wpList_load_row rfl 109 _ rfl (w.heap.size + 1 + 1 + 1) rfl _ _ (0, 0) _ H3.out Tryz.underlying109 rfl (HI.out _ (rowL_size _ _ _)) ?_
        | refine wpList_store_row rfl 109 _ _ rfl (w.heap.size + 1 + 1) (rowL 32 (pS f g) 32) rfl rfl _ _ H2.out (HI.out _ (rowL_size _ _ _)) (by rw [HZ.out.1, rowL_size]) (rowL_one _ _ _) ?_)
      exact bodyPost_ret (v := .agg (rowL 32 (pS f g) 32)) (results_cell_row rfl _ _ (w.heap.size + 1 + 1) 109 (rowL 32 (pS f g) 32) (0, 0) _ rfl H2.out.setRow Tryz.underlying109 rfl (HI.out _ (rowL_size _ _ _))) rfl ⟨rfl, below_setRow' hb (by omega) _⟩

set_option maxRecDepth 100000 in
set_option maxHeartbeats 1000000 in
theorem gather_any (T V : Array Value) (p : Nat → Int) (k bx bc : Nat) (w : World) (hk : k < 16) (hT : IsRow 32 p T) (hV : IsRow 128 tabS V) (hp : ∀ n, n < 32 → ab (p n) ≤ 1048576)
    (h1 : At w bx T 109) (h2 : At w bc V 111) :
    Calls Tryz.prog 66 #[.int .i64 k, .pointer (some ⟨bx, 0, none⟩), .pointer (some ⟨bc, 0, none⟩)] w fun e w' => e = .returned (.int .i64 (sum 32 fun n => p n * cS n k)) ∧ w = w' := by
  obtain ⟨Z, hZ, hZ0, hz, hi⟩ := zero_32
  have HT := Lib.hid hT
  have HV := Lib.hid hV
  have HP := Lib.hid hp
  have H1 := Lib.hid h1
  have H2 := Lib.hid h2
  have HI := Lib.hid hi
  clear hT hV hp h1 h2 hi hZ hZ0 hz
  go_enter Tryz.func66, Tryz.ntmps66
  go_wp2_with (refine wpList_load_row rfl 109 _ rfl bx rfl _ _ (0, 0) _ H1.out Tryz.underlying109 rfl (HI.out _ HT.out.1) ?_)
  go_loop [5, 9] (fun s i => ∃ n : Nat, n ≤ 32 ∧ i = .int .i64 n ∧ s = .int .i64 (sum n fun n => p n * cS n k)) (fun _ i => 32 - (intOf i).toNat)
  case atStart => exact ⟨0, Nat.zero_le _, rfl, rfl⟩
  case round =>
    obtain ⟨n, hn, rfl, rfl⟩ := hrel
    obtain ⟨s1, s2⟩ := le_ab (sum_ab n (fun n => p n * cS n k) (1048576 * 32768) fun i hi => ab_prod (HP.out i (by omega)) (c_bd i k))
    by_cases hn32 : n < 32
    · have hc := HT.out.2.2 n hn32
      obtain ⟨i, hi⟩ : ∃ i, (2 * n + 17) * (2 * k + 1) % 128 = i := ⟨_, rfl⟩
      have hi1 : i < 128 := by omega
      have cV := HV.out.cell H2.out i hi1
      obtain ⟨x, hx⟩ : ∃ x, p n = x := ⟨_, rfl⟩
      obtain ⟨c, hcc⟩ : ∃ c, tabS i = c := ⟨_, rfl⟩
      obtain ⟨q1, q2⟩ := le_ab (ab_prod (HP.out n hn32) (c_bd n k))
      have hcs : cS n k = c := by unfold cS; rw [hi]; exact hcc
      rw [hx] at hc
      rw [hcc] at cV
      rw [hx, hcs] at q1 q2
      have hr := run_index Tryz.underlying109 hn32 hc
      have HS := Lib.hid (show sum (n + 1) (fun n => p n * cS n k) = sum n (fun n => p n * cS n k) + x * c by rw [sum, hx, hcs])
      have HK := Lib.hid hi
      generalize sum n (fun n => p n * cS n k) = s at *
      simp only [Int.reduceMul] at q1 q2 s1 s2
      have i1 : (i : Int) < 128 := by omega
      clear hc hx hcc hcs hi
      go_wp2_with (go_at_call 67; (with_reducible refine (turn_as n k i _ hn32 hk HK.out).mono ?_); rintro e w' ⟨rfl, rfl⟩)
      go_round
      case rel => exact ⟨n + 1, by omega, by go_num, by rw [HS.out]⟩
      case measure => simp [intOf]; omega
    · obtain rfl : n = 32 := by omega
      go_wp2
      go_ret
      exact ⟨rfl, rfl⟩

theorem shift17_as (x r : Int) (w : World) (h1 : -1099511627776 ≤ x) (h2 : x ≤ 1099511627776) (h : nr17 x = r) :
    Calls Tryz.prog 68 #[.int .i64 x, .int .i64 17] w fun e w' => e = .returned (.int .i64 r) ∧ w = w' := by
  subst h; exact shift_17 x w h1 h2

/-- What holds of the memory all along: both frames, the result's row, the waves' row. -/
def Wv (w w' : World) (T U Z X : Array Value) : Prop :=
  Below w.heap.size w w' ∧ w.heap.size + 1 + 1 + 1 + 1 ≤ w'.heap.size ∧ At w' w.heap.size T 32 ∧ At w' (w.heap.size + 1) U 32 ∧ At w' (w.heap.size + 1 + 1) Z 32 ∧ At w' (w.heap.size + 1 + 1 + 1) X 32

theorem Wv.start (w : World) (T U Z : Array Value) : Wv w ((((w.alloc (.cells T 32)).alloc (.cells U 32)).alloc (.cells Z 32)).alloc (.cells Z 32)) T U Z Z := by
  refine ⟨((((Below.refl _ _).alloc (Nat.le_refl _) _).alloc (by simp) _).alloc (by simp; omega) _).alloc (by simp; omega) _, by simp, (((At.new _ _ _).alloc _).alloc _).alloc _, ?_, ?_, ?_⟩
  · have := ((At.new (w.alloc (.cells T 32)) U 32).alloc (.cells Z 32)).alloc (.cells Z 32)
    simpa using this
  · have := (At.new ((w.alloc (.cells T 32)).alloc (.cells U 32)) Z 32).alloc (.cells Z 32)
    simpa using this
  · have := At.new (((w.alloc (.cells T 32)).alloc (.cells U 32)).alloc (.cells Z 32)) Z 32
    simpa using this

theorem Wv.below {w w1 w2 : World} {T U Z X : Array Value} (h : Wv w w1 T U Z X) (hb : Below w1.heap.size w1 w2) : Wv w w2 T U Z X := by
  obtain ⟨h0, h1, h2, h3, h4, h5⟩ := h
  have := hb.size
  exact ⟨below_trans h0 hb (by omega), by omega, h2.below hb (by omega), h3.below hb (by omega), h4.below hb (by omega), h5.below hb (by omega)⟩

theorem Wv.alloc {w w1 : World} {T U Z X : Array Value} (h : Wv w w1 T U Z X) (o : Obj) : Wv w (w1.alloc o) T U Z X := by
  obtain ⟨h0, h1, h2, h3, h4, h5⟩ := h
  exact ⟨h0.alloc (by omega) _, by simp; omega, h2.alloc _, h3.alloc _, h4.alloc _, h5.alloc _⟩

theorem gather_as (T V : Array Value) (p : Nat → Int) (k bx bc : Nat) (s : Int) (w : World) (hk : k < 16) (hT : IsRow 32 p T) (hV : IsRow 128 tabS V) (hp : ∀ n, n < 32 → ab (p n) ≤ 1048576)
    (h1 : At w bx T 109) (h2 : At w bc V 111) (h : (sum 32 fun n => p n * cS n k) = s) :
    Calls Tryz.prog 66 #[.int .i64 k, .pointer (some ⟨bx, 0, none⟩), .pointer (some ⟨bc, 0, none⟩)] w fun e w' => e = .returned (.int .i64 s) ∧ w = w' := by
  subst h; exact gather_any T V p k bx bc w hk hT hV hp h1 h2

/-- While the waves' row is filled: the windowed numbers and the cosines stand too. -/
def WvInv (w w' : World) (T U Z : Array Value) (p q : Nat → Int) (bx bc k : Nat) : Prop :=
  Wv w w' T U Z (rowL 16 q k) ∧ At w' bx (rowL 32 p 32) 109 ∧ At w' bc (rowL 128 tabS 128) 111

set_option maxRecDepth 100000 in
set_option maxHeartbeats 1000000 in
theorem waves_yes (T U : Array Value) (f g : Nat → Int) (hT : IsRow 16 f T) (hU : IsRow 16 g U) (hf : Le 1048576 f) (hg : Le 1048576 g) (w : World) :
    Calls Tryz.prog 23 #[.agg T, .agg U] w fun e w' => e = .returned (.agg (rowL 16 (wS f g) 16)) ∧ Below w.heap.size w w' := by
  obtain ⟨Z, hZ, hZ0, hz, hi⟩ := zero_block
  obtain ⟨Y, hY, hY0, hy, hj⟩ := zero_32
  obtain ⟨C, hC, hC0, hc, hl⟩ := zero_128
  have HT := Lib.hid hT
  have HU := Lib.hid hU
  have HF := Lib.hid hf
  have HG := Lib.hid hg
  have HZ := Lib.hid hZ
  have HY := Lib.hid hY
  have HC := Lib.hid hC
  have ZE := Lib.hid hZ0
  have HI := Lib.hid hi
  have HJ := Lib.hid hj
  have HL := Lib.hid hl
  have HP := Lib.hid fun n hn => p_bd hf hg n hn
  have hs := Wv.start w T U Z
  have HS := Lib.hid hs
  clear hT hU hZ0 hi hf hg hZ hY hC hY0 hC0 hj hl hs
  go_enter Tryz.func23, Tryz.ntmps23
  go_wp2_with (refine wpList_load_row rfl 32 _ rfl w.heap.size rfl _ _ (0, 0) _ HS.out.2.2.1 Tryz.underlying32 rfl (HI.out _ HT.out.1) ?_)
  refine (held_yes T f HT.out HF.out _).mono ?_
  rintro e w1 ⟨rfl, hw1⟩
  have H1 := Lib.hid (HS.out.below hw1)
  clear HS hw1
  go_wp2_with (refine wpList_load_wanted (by rfl) 32 _ rfl (w.heap.size + 1) rfl _ _ _ _ H1.out.2.2.2.1 Tryz.underlying32 (HI.out _ HU.out.1) ?_)
  refine (held_yes U g HU.out HG.out _).mono ?_
  rintro e w2 ⟨rfl, hw2⟩
  have H2 := Lib.hid (H1.out.below hw2)
  clear H1 hw2
  go_wp2_with (first
    | refine wpList_load_row rfl 32 _ rfl w.heap.size rfl _ _ (0, 0) _ H2.out.2.2.1 Tryz.underlying32 rfl (HI.out _ HT.out.1) ?_
    | refine wpList_load_row rfl 32 _ rfl (w.heap.size + 1) rfl _ _ (0, 0) _ H2.out.2.2.2.1 Tryz.underlying32 rfl (HI.out _ HU.out.1) ?_)
  refine (windowed_any T U f g HT.out HU.out HF.out HG.out _).mono ?_
  rintro e w3 ⟨rfl, hw3⟩
  have H3 := Lib.hid (H2.out.below hw3)
  clear H2 hw3
  go_wp2_with (refine wpList_store_row rfl 109 _ _ rfl w3.heap.size (rowL 32 (pS f g) 32) rfl rfl _ _ (heap_alloc_new _ _) (HJ.out _ (rowL_size _ _ _)) (by rw [rowL_size, HY.out.1]) (rowL_one _ _ _) ?_)
  rw [World.setRow_alloc_new]
  refine (tab_any _).mono ?_
  rintro e w4 ⟨rfl, hw4⟩
  have hbx := H3.out.2.1
  have X3 := At.new w3 (rowL 32 (pS f g) 32) 109
  have HX := Lib.hid (X3.below hw4 X3.lt)
  have H4 := Lib.hid ((H3.out.alloc (.cells (rowL 32 (pS f g) 32) 109)).below hw4)
  clear H3 hw4 X3
  have hmf : ∀ (fn : Fn) (first cap : Array Value) (w : World), (Instr.makeFunc fn first cap).run Tryz.prog w = .ok (.func fn first cap) w := fun _ _ _ _ => rfl
  go_wp2_with (refine wpList_store_row rfl 111 _ _ rfl w4.heap.size (rowL 128 tabS 128) rfl rfl _ _ (heap_alloc_new _ _) (HL.out _ (rowL_size _ _ _)) (by rw [rowL_size, HC.out.1]) (rowL_one _ _ _) ?_)
  rw [World.setRow_alloc_new]
  have hbc := H4.out.2.1
  have hstart : WvInv w (w4.alloc (.cells (rowL 128 tabS 128) 111)) T U Z (pS f g) (wS f g) w3.heap.size w4.heap.size 0 :=
    ⟨by rw [ZE.out]; exact H4.out.alloc _, HX.out.alloc _, At.new _ _ _⟩
  revert hbx hbc hstart
  generalize w4.alloc (.cells (rowL 128 tabS 128) 111) = W
  generalize w3.heap.size = bx
  generalize w4.heap.size = bc
  intro hbx hbc hstart
  clear HX H4
  go_loopw [24] (fun i w' => ∃ k : Nat, k ≤ 16 ∧ i = .int .i64 k ∧ WvInv w w' T U Z (pS f g) (wS f g) bx bc k) (fun i _ => 16 - (intOf i).toNat)
  case atStart => exact ⟨0, Nat.zero_le _, rfl, hstart⟩
  case round =>
    obtain ⟨k, hk, rfl, hinv⟩ := hrel
    clear hstart
    obtain ⟨hwv, hx, hc⟩ := hinv
    obtain ⟨hb, hn4, h0, h1, h2, h3⟩ := hwv
    have H0 := Lib.hid h0
    have H1 := Lib.hid h1
    have H2 := Lib.hid h2
    have H3 := Lib.hid h3
    have HX := Lib.hid hx
    have HD := Lib.hid hc
    by_cases hk16 : k < 16
    · have c3 := rowL_cell h3 k hk16
      have f3 := h3.frozen k
      obtain ⟨s, hs⟩ : ∃ s, (sum 32 fun n => pS f g n * cS n k) = s := ⟨_, rfl⟩
      obtain ⟨r, hr⟩ : ∃ r, nr17 s = r := ⟨_, rfl⟩
      obtain ⟨s1, s2⟩ := le_ab (v_bd HF.out HG.out k 32 (by omega))
      unfold vS at s1 s2
      rw [hs] at s1 s2
      have HS := Lib.hid hs
      have HR := Lib.hid hr
      have HW := Lib.hid (show wS f g k = r by unfold wS vS; rw [hs, hr])
      have s3 : -1099511627776 ≤ s := by omega
      have s4 : s ≤ 1099511627776 := by omega
      have k1 : (k : Int) < 16 := by omega
      clear h0 h1 h2 h3 hx hc hs hr s1 s2
      go_wp2_with (first
        | (go_at_call 66; (with_reducible refine (gather_as _ _ (pS f g) k bx bc s _ hk16 (isRow 32 (pS f g)) (isRow 128 tabS) HP.out HX.out HD.out HS.out).mono ?_); rintro e w' ⟨rfl, rfl⟩)
        | (go_at_call 68; (with_reducible refine (shift17_as s r _ s3 s4 HR.out).mono ?_); rintro e w' ⟨rfl, rfl⟩))
      go_roundw
      case rel => exact ⟨k + 1, by omega, by go_num, ⟨hb.setCell (by dsimp only; omega) _, by simpa using hn4, H0.out.setCell_other (by dsimp only; omega), H1.out.setCell_other (by dsimp only; omega), H2.out.setCell_other (by dsimp only; omega), by rw [← HW.out]; exact H3.out.put hk16⟩, HX.out.setCell_other (by dsimp only; omega), HD.out.setCell_other (by dsimp only; omega)⟩
      case measure => simp [intOf]; omega
    · clear h0 h1 h2 h3 hx hc
      obtain rfl : k = 16 := by omega
      go_wp2_with (first
        | refine wpList_load_row rfl 32 _ rfl (w.heap.size + 1 + 1 + 1) rfl _ _ (0, 0) _ H3.out Tryz.underlying32 rfl (HI.out _ (rowL_size _ _ _)) ?_
        | refine wpList_store_row rfl 32 _ _ rfl (w.heap.size + 1 + 1) (rowL 16 (wS f g) 16) rfl rfl _ _ H2.out (HI.out _ (rowL_size _ _ _)) (by rw [HZ.out.1, rowL_size]) (rowL_one _ _ _) ?_)
      exact bodyPost_ret (v := .agg (rowL 16 (wS f g) 16)) (results_cell_row rfl _ _ (w.heap.size + 1 + 1) 32 (rowL 16 (wS f g) 16) (0, 0) _ rfl H2.out.setRow Tryz.underlying32 rfl (HI.out _ (rowL_size _ _ _))) rfl ⟨rfl, below_setRow' hb (by omega) _⟩

end Go.Proofs.YtfohinlldchdpaaGreatDoor.Md
end

section
/- MdRef beside Row: the document's Pow, Cut, Shift. -/
namespace Go.Proofs.YtfohinlldchdpaaGreatDoor.Md
open Go.RowKit Go.Proofs.YtfohinlldchdpaaGreatDoor.Row Go.Proofs.YtfohinlldchdpaaGreatDoor.Ang
set_option linter.unusedVariables false

theorem pow_bd {k m : Nat} (h : k ≤ m) : (1 : Int) ≤ 2 ^ k ∧ (2 : Int) ^ k ≤ 2 ^ m := by
  have h1 : 1 ≤ 2 ^ k := Nat.one_le_two_pow
  have h2 : 2 ^ k ≤ 2 ^ m := Nat.pow_le_pow_right (by omega) h
  exact ⟨by exact_mod_cast h1, by exact_mod_cast h2⟩

theorem pow_any (n : Int) (w : World) (h1 : 0 ≤ n) (h2 : n ≤ 62) :
    Calls Tryz.prog 99 #[.int .i64 n] w fun e w' => e = .returned (.int .i64 (2 ^ n.toNat)) ∧ w = w' := by
  go_enter Tryz.func99, Tryz.ntmps99
  go_wp2
  go_loop [3, 4] (fun p i => ∃ k : Nat, (k : Int) ≤ n ∧ i = .int .i64 k ∧ p = .int .i64 (2 ^ k)) (fun _ i => n.toNat - (intOf i).toNat)
  case atStart => exact ⟨0, by omega, rfl, rfl⟩
  case round =>
    obtain ⟨k, hk, rfl, rfl⟩ := hrel
    by_cases hlt : (k : Int) < n
    · obtain ⟨hp, hq⟩ := pow_bd (show k ≤ 61 by omega)
      simp only [Int.reducePow] at hq
      go_wp2
      go_round
      case rel => exact ⟨k + 1, by omega, by go_num, by rw [Int.pow_succ, Int.mul_comm]⟩
      case measure => simp [intOf]; omega
    · go_wp2
      go_ret
      exact ⟨ret_int (by rw [show n.toNat = k by omega]), rfl⟩

theorem pow_as (n p : Int) (w : World) (h1 : 0 ≤ n) (h2 : n ≤ 62) (h : 2 ^ n.toNat = p) :
    Calls Tryz.prog 99 #[.int .i64 n] w fun e w' => e = .returned (.int .i64 p) ∧ w = w' := by
  subst h; exact pow_any n w h1 h2

theorem refCut_any (x : Int) (w : World) :
    Calls Tryz.prog 54 #[.int .i64 x, .int .i64 32] w fun e w' => e = .returned (.int .i64 (ct x)) ∧ w = w' := by
  by_cases c1 : x < -2147483648
  · go_enter Tryz.func54, Tryz.ntmps54
    go_wp2_with (go_at_call 99; (with_reducible refine (pow_as 31 2147483648 _ (by omega) (by omega) (by decide)).mono ?_); rintro e w' ⟨rfl, rfl⟩)
    go_ret
    exact ⟨ret_int (by unfold ct; omega), rfl⟩
  · by_cases c2 : 2147483647 < x
    · go_enter Tryz.func54, Tryz.ntmps54
      go_wp2_with (go_at_call 99; (with_reducible refine (pow_as 31 2147483648 _ (by omega) (by omega) (by decide)).mono ?_); rintro e w' ⟨rfl, rfl⟩)
      go_ret
      exact ⟨ret_int (by unfold ct; omega), rfl⟩
    · go_enter Tryz.func54, Tryz.ntmps54
      go_wp2_with (go_at_call 99; (with_reducible refine (pow_as 31 2147483648 _ (by omega) (by omega) (by decide)).mono ?_); rintro e w' ⟨rfl, rfl⟩)
      go_ret
      exact ⟨ret_int (by unfold ct; omega), rfl⟩

theorem refCut_as (x p : Int) (w : World) (h : ct x = p) :
    Calls Tryz.prog 54 #[.int .i64 x, .int .i64 32] w fun e w' => e = .returned (.int .i64 p) ∧ w = w' := by
  subst h; exact refCut_any x w

theorem refShift_15 (x r : Int) (w : World) (h1 : -1099511627776 ≤ x) (h2 : x ≤ 1099511627776) (h : near x = r) :
    Calls Tryz.prog 94 #[.int .i64 x, .int .i64 15] w fun e w' => e = .returned (.int .i64 r) ∧ w = w' := by
  subst h
  go_enter Tryz.func94, Tryz.ntmps94
  go_wp2_with (first
    | (go_at_call 99; (with_reducible refine (pow_as 14 16384 _ (by omega) (by omega) (by decide)).mono ?_); rintro e w' ⟨rfl, rfl⟩)
    | (go_at_call 99; (with_reducible refine (pow_as 15 32768 _ (by omega) (by omega) (by decide)).mono ?_); rintro e w' ⟨rfl, rfl⟩)
    | (go_at_call 144; refine (down_any _ _ _ (by omega) (by omega) (by omega) (by omega)).mono ?_; rintro e w' ⟨rfl, rfl⟩))
  go_ret
  exact ⟨rfl, rfl⟩

theorem refShift_16 (x r : Int) (w : World) (h1 : -1099511627776 ≤ x) (h2 : x ≤ 1099511627776) (h : nr16 x = r) :
    Calls Tryz.prog 94 #[.int .i64 x, .int .i64 16] w fun e w' => e = .returned (.int .i64 r) ∧ w = w' := by
  subst h
  go_enter Tryz.func94, Tryz.ntmps94
  go_wp2_with (first
    | (go_at_call 99; (with_reducible refine (pow_as 15 32768 _ (by omega) (by omega) (by decide)).mono ?_); rintro e w' ⟨rfl, rfl⟩)
    | (go_at_call 99; (with_reducible refine (pow_as 16 65536 _ (by omega) (by omega) (by decide)).mono ?_); rintro e w' ⟨rfl, rfl⟩)
    | (go_at_call 144; refine (down_any _ _ _ (by omega) (by omega) (by omega) (by omega)).mono ?_; rintro e w' ⟨rfl, rfl⟩))
  go_ret
  exact ⟨rfl, rfl⟩

theorem refShift_17 (x r : Int) (w : World) (h1 : -1099511627776 ≤ x) (h2 : x ≤ 1099511627776) (h : nr17 x = r) :
    Calls Tryz.prog 94 #[.int .i64 x, .int .i64 17] w fun e w' => e = .returned (.int .i64 r) ∧ w = w' := by
  subst h
  go_enter Tryz.func94, Tryz.ntmps94
  go_wp2_with (first
    | (go_at_call 99; (with_reducible refine (pow_as 16 65536 _ (by omega) (by omega) (by decide)).mono ?_); rintro e w' ⟨rfl, rfl⟩)
    | (go_at_call 99; (with_reducible refine (pow_as 17 131072 _ (by omega) (by omega) (by decide)).mono ?_); rintro e w' ⟨rfl, rfl⟩)
    | (go_at_call 144; refine (down_any _ _ _ (by omega) (by omega) (by omega) (by omega)).mono ?_; rintro e w' ⟨rfl, rfl⟩))
  go_ret
  exact ⟨rfl, rfl⟩
end Go.Proofs.YtfohinlldchdpaaGreatDoor.Md
end

section
/- MdRef2 beside Row: the document's Held, Table. -/
namespace Go.Proofs.YtfohinlldchdpaaGreatDoor.Md
open Go.RowKit Go.Proofs.YtfohinlldchdpaaGreatDoor.Row Go.Proofs.YtfohinlldchdpaaGreatDoor.Ang
set_option linter.unusedVariables false

set_option maxHeartbeats 400000 in
theorem refHeld_yes (T : Array Value) (f : Nat → Int) (hT : IsRow 16 f T) (hf : Le 1048576 f) (w : World) :
    Calls Tryz.prog 92 #[.agg T] w fun e w' => e = .returned (.bool true) ∧ Below w.heap.size w w' := by
  have HT := Lib.hid hT
  have HF := Lib.hid hf
  have H0 := Lib.hid (At.new w T 22)
  clear hT hf
  go_enter Tryz.func92, Tryz.ntmps92
  go_wp2
  go_loop [3] (fun i => ∃ k : Nat, k ≤ 16 ∧ i = .int .i64 k) (fun i => 16 - (intOf i).toNat)
  case atStart => exact ⟨0, Nat.zero_le _, rfl⟩
  case round =>
    obtain ⟨k, hk, rfl⟩ := hrel
    by_cases hk16 : k < 16
    · have hc := HT.out.cell H0.out k hk16
      obtain ⟨b1, b2⟩ := le_ab (HF.out k hk16)
      obtain ⟨x, hx⟩ : ∃ x, f k = x := ⟨_, rfl⟩
      rw [hx] at hc b1 b2
      clear hx
      have k1 : (k : Int) < 16 := by omega
      go_wp2
      go_round
      case rel => exact ⟨k + 1, by omega, by go_num⟩
      case measure => simp [intOf]; omega
    · go_wp2
      go_ret
      exact ⟨rfl, (Below.refl _ _).alloc (Nat.le_refl _) _⟩

set_option maxHeartbeats 400000 in
theorem refHeld_no (T : Array Value) (f : Nat → Int) (hT : IsRow 16 f T) (hf : ¬ Le 1048576 f) (w : World) :
    Calls Tryz.prog 92 #[.agg T] w fun e w' => e = .returned (.bool false) ∧ Below w.heap.size w w' := by
  obtain ⟨j, hj, hbad, hpre⟩ := first_bad hf
  have HT := Lib.hid hT
  have HF := Lib.hid hpre
  have HB := Lib.hid hbad
  have H0 := Lib.hid (At.new w T 22)
  clear hT hf hpre hbad
  go_enter Tryz.func92, Tryz.ntmps92
  go_wp2
  go_loop [3] (fun i => ∃ k : Nat, k ≤ j ∧ i = .int .i64 k) (fun i => 16 - (intOf i).toNat)
  case atStart => exact ⟨0, Nat.zero_le _, rfl⟩
  case round =>
    obtain ⟨k, hk, rfl⟩ := hrel
    have hc := HT.out.cell H0.out k (by omega)
    obtain ⟨x, hx⟩ : ∃ x, f k = x := ⟨_, rfl⟩
    rw [hx] at hc
    have k1 : (k : Int) < 16 := by omega
    by_cases hkj : k < j
    · obtain ⟨b1, b2⟩ := le_ab (HF.out k hkj)
      rw [hx] at b1 b2
      clear hx
      go_wp2
      go_round
      case rel => exact ⟨k + 1, by omega, by go_num⟩
      case measure => simp [intOf]; omega
    · obtain rfl : k = j := by omega
      have hb : x < -1048576 ∨ (-1048576 ≤ x ∧ 1048576 < x) := by
        have := HB.out
        rw [hx] at this
        unfold ab at this
        omega
      clear hx
      rcases hb with hb | ⟨hb1, hb2⟩
      · go_wp2
        go_ret
        exact ⟨rfl, (Below.refl _ _).alloc (Nat.le_refl _) _⟩
      · go_wp2
        go_ret
        exact ⟨rfl, (Below.refl _ _).alloc (Nat.le_refl _) _⟩

set_option maxRecDepth 100000 in
set_option maxHeartbeats 1000000 in
theorem refTab_any (w : World) :
    Calls Tryz.prog 93 #[] w fun e w' => e = .returned (.agg (rowL 128 tabS 128)) ∧ Below w.heap.size w w' := by
  have hstart : TableInv w ((w.alloc (.cells (rowL 128 tabS 0) 111)).alloc (.cells (rowL 128 tabS 0) 111)) 0 :=
    ⟨((Below.refl _ _).alloc (Nat.le_refl _) _).alloc (by simp) _, heap_alloc2_old _ _ _, heap_alloc2_new _ _ _⟩
  have hz := tab_run
  go_enter Tryz.func93, Tryz.ntmps93
  go_wp2
  go_loopw [2] (fun i w' => ∃ k : Nat, k ≤ 128 ∧ i = .int .i64 k ∧ TableInv w w' k) (fun i _ => 128 - (intOf i).toNat)
  case atStart => exact ⟨0, Nat.zero_le _, rfl, hstart⟩
  case round =>
    obtain ⟨k, hk, rfl, hinv⟩ := hrel
    clear hstart
    obtain ⟨hb, h0, h1⟩ := hinv
    have H0 := Lib.hid h0
    have H1 := Lib.hid h1
    by_cases hk16 : k < 128
    · have hc := (cell_of_row _ _ k _ _ _ h1).trans (rowL_get 128 tabS k k hk16)
      have hf := frozen_of_row _ _ k _ _ h1
      clear h0 h1
      go_wp2_with (go_at_call 143; (with_reducible refine (refCos_as _ (tabS k) _ rfl).mono ?_); rintro e w' ⟨rfl, rfl⟩)
      go_roundw
      case rel => exact ⟨k + 1, by omega, by go_num, hb.setCell (by simp) _, (heap_setCell_other _ _ _ _ (by simp)).trans H0.out, by rw [← rowL_next 128 tabS k hk16]; exact heap_setCell_same _ _ _ _ _ _ H1.out⟩
      case measure => simp [intOf]; omega
    · clear h0 h1
      obtain rfl : k = 128 := by omega
      go_wp2_with (first
        | refine wpList_load_row rfl 111 _ rfl (w.heap.size + 1) rfl _ _ (0, 0) _ H1.out Tryz.underlying111 rfl (tab_size 128) ?_
        | refine wpList_store_row rfl 111 _ _ rfl w.heap.size (rowL 128 tabS 128) rfl rfl _ _ H0.out (tab_size 128) (by rw [rowL_size, rowL_size]) (rowL_one 128 tabS 128) ?_)
      exact bodyPost_ret (v := .agg (rowL 128 tabS 128)) (results_cell_row rfl _ _ w.heap.size 111 (rowL 128 tabS 128) (0, 0) _ rfl (setRow_heap _ _ _ _ _ _ H0.out) Tryz.underlying111 rfl (tab_size 128)) rfl ⟨rfl, below_setRow hb _⟩
end Go.Proofs.YtfohinlldchdpaaGreatDoor.Md
end

section
/- MdRef3, MdRef4 beside Row: the document's Back. -/
namespace Go.Proofs.YtfohinlldchdpaaGreatDoor.Md
open Go.RowKit Go.Proofs.YtfohinlldchdpaaGreatDoor.Row Go.Proofs.YtfohinlldchdpaaGreatDoor.Ang
set_option linter.unusedVariables false

theorem idx_nat (n k : Nat) (hn : n < 32) (hk : k < 16) : ∃ q i : Nat, (2 * (n : Int) + 17) * (2 * (k : Int) + 1) = (q : Int) ∧ q ≤ 2449 ∧ (q : Int).tmod 128 = (i : Int) ∧ (q : Int) % 128 = (i : Int) ∧ i < 128 ∧ cS n k = tabS i := by
  refine ⟨(2 * n + 17) * (2 * k + 1), (2 * n + 17) * (2 * k + 1) % 128, ?_, ?_, ?_, ?_, by omega, rfl⟩
  · rw [Int.natCast_mul]; congr 1
  · exact Nat.mul_le_mul (show 2 * n + 17 ≤ 79 by omega) (show 2 * k + 1 ≤ 31 by omega)
  · rw [Int.tmod_eq_emod_of_nonneg (by omega)]; omega
  · omega

/-- What holds of the memory while the document's way back is made. -/
def RbInv (w : World) (T Z : Array Value) (bc bo : Nat) (q : Nat → Int) (k : Nat) (w' : World) : Prop :=
  Below w.heap.size w w' ∧ At w' w.heap.size T 22 ∧ At w' (w.heap.size + 1) Z 109 ∧ At w' bc (rowL 128 tabS 128) 111 ∧ At w' bo (rowL 32 q k) 109

theorem rb_start (w w1 : World) (T Z : Array Value) (q : Nat → Int) (hq : rowL 32 q 0 = Z)
    (h : Below (w.heap.size + 1 + 1) ((w.alloc (.cells T 22)).alloc (.cells Z 109)) w1) :
    RbInv w T Z w1.heap.size (w1.heap.size + 1) q 0 ((w1.alloc (.cells (rowL 128 tabS 128) 111)).alloc (.cells Z 109)) := by
  have hs := h.size
  have hb : Below w.heap.size w ((w.alloc (.cells T 22)).alloc (.cells Z 109)) := ((Below.refl _ _).alloc (Nat.le_refl _) _).alloc (by simp) _
  have hb1 : Below w.heap.size w w1 := hb.trans (h.mono (by omega))
  refine ⟨(hb1.alloc hb1.size _).alloc (by have := hb1.size; simp; omega) _, ?_, ?_, (At.new _ _ _).alloc _, ?_⟩
  · exact ((((At.new _ _ _).alloc _).below h (by omega)).alloc _).alloc _
  · have := At.new (w.alloc (.cells T 22)) Z 109
    simp only [World.size_alloc] at this
    exact ((this.below h (by omega)).alloc _).alloc _
  · rw [hq]
    have := At.new (w1.alloc (.cells (rowL 128 tabS 128) 111)) Z 109
    simp only [World.size_alloc] at this
    exact this

set_option maxRecDepth 100000 in
set_option maxHeartbeats 2000000 in
theorem refBack_any (T : Array Value) (f : Nat → Int) (hT : IsRow 16 f T) (hf : Le 1048576 f) (w : World) :
    Calls Tryz.prog 151 #[.agg T] w fun e w' => e = .returned (.agg (rowL 32 (bS f) 32)) ∧ Below w.heap.size w w' := by
  obtain ⟨Z, hZ, hZ0, hz, hi⟩ := zero_32
  obtain ⟨C, hC, hC0, hc, hl⟩ := zero_128
  have HT := Lib.hid hT
  have HF := Lib.hid hf
  have HZ := Lib.hid hZ
  have HC := Lib.hid hC
  have ZE := Lib.hid hZ0
  have HI := Lib.hid hi
  have HL := Lib.hid hl
  clear hT hZ0 hi hf hZ hC hC0 hl
  go_enter Tryz.func151, Tryz.ntmps151
  go_wp2_with fail
  refine (refTab_any _).mono ?_
  rintro e w1 ⟨rfl, hw1⟩
  have hstart := rb_start w w1 T Z (bS f) (ZE.out _) (by simpa using hw1)
  have hge : w.heap.size + 1 + 1 ≤ w1.heap.size := by simpa using hw1.size
  have HSt := Lib.hid hstart
  clear hw1 hstart
  go_wp2_with (refine wpList_store_row rfl 111 _ _ rfl w1.heap.size (rowL 128 tabS 128) rfl rfl _ _ (heap_alloc_new _ _) (HL.out _ (rowL_size _ _ _)) (by rw [rowL_size, HC.out.1]) (rowL_one _ _ _) ?_; rw [World.setRow_alloc_new])
  revert HSt hge
  generalize (w1.alloc (.cells (rowL 128 tabS 128) 111)).alloc (.cells Z 109) = W
  have gbo : w1.heap.size < w1.heap.size + 1 := Nat.lt_succ_self _
  revert gbo
  generalize w1.heap.size + 1 = bo
  generalize w1.heap.size = bc
  intro gbo hge HSt
  go_loopw [5] (fun i w' => ∃ n : Nat, n ≤ 32 ∧ i = .int .i64 n ∧ RbInv w T Z bc bo (bS f) n w') (fun i _ => 32 - (intOf i).toNat)
  case atStart => exact ⟨0, Nat.zero_le _, rfl, HSt.out⟩
  case round =>
    obtain ⟨n, hn, rfl, hinv⟩ := hrel
    clear HSt
    have HB := Lib.hid hinv
    by_cases hn32 : n < 32
    · have n1 : (n : Int) < 32 := by omega
      clear hinv
      obtain ⟨wo, rfl⟩ : ∃ wo : World, wo = wr := ⟨_, rfl⟩
      go_wp2
      go_loopw [6, 7] (fun s i w' => ∃ k : Nat, k ≤ 16 ∧ i = .int .i64 k ∧ s = .int .i64 (uS f n k) ∧ RbInv w T Z bc bo (bS f) n w') (fun _ i _ => 16 - (intOf i).toNat)
      case atStart => exact ⟨0, Nat.zero_le _, rfl, rfl, HB.out⟩
      case round =>
        obtain ⟨k, hk, rfl, rfl, hinv⟩ := hrel
        clear HB
        have HB := Lib.hid hinv
        obtain ⟨s1, s2⟩ := le_ab (u_bd HF.out n k hk)
        by_cases hk16 : k < 16
        · obtain ⟨q, i, e1, e2, e3, e4, e5, e6⟩ := idx_nat n k hn32 hk16
          have c3 := (isRow 128 tabS).cell HB.out.2.2.2.1 i e5
          have c0 := HT.out.cell HB.out.2.1 k hk16
          obtain ⟨c, hcc⟩ : ∃ c, tabS i = c := ⟨_, rfl⟩
          obtain ⟨x, hx⟩ : ∃ x, f k = x := ⟨_, rfl⟩
          obtain ⟨q1, q2⟩ := le_ab (ab_prod (HF.out k hk16) (c_bd n k))
          rw [hx, e6, hcc] at q1 q2
          rw [hcc] at c3
          rw [hx] at c0
          simp only [Int.reduceMul] at q1 q2 s1 s2
          have HS := Lib.hid (show uS f n (k + 1) = uS f n k + x * c by unfold uS; rw [sum, hx, e6, hcc])
          have i1 : (i : Int) < 128 := by omega
          have k1 : (k : Int) < 16 := by omega
          generalize uS f n k = s at *
          have m1 : IntKind.i64.wrap (2 * (n : Int)) = 2 * (n : Int) := IntWalk.i64_in _ (by omega)
          have m2 : IntKind.i64.wrap (2 * (n : Int) + 17) = 2 * (n : Int) + 17 := IntWalk.i64_in _ (by omega)
          have m3 : IntKind.i64.wrap (2 * (k : Int)) = 2 * (k : Int) := IntWalk.i64_in _ (by omega)
          have m4 : IntKind.i64.wrap (2 * (k : Int) + 1) = 2 * (k : Int) + 1 := IntWalk.i64_in _ (by omega)
          have m5 : IntKind.i64.wrap (q : Int) = (q : Int) := IntWalk.i64_in _ (by omega)
          have m6 : IntKind.i64.wrap (i : Int) = (i : Int) := IntWalk.i64_in _ (by omega)
          have m7 : IntKind.i64.wrap (x * c) = x * c := IntWalk.i64_in _ (by omega)
          have m8 : IntKind.i64.wrap (s + x * c) = s + x * c := IntWalk.i64_in _ (by omega)
          clear e6 hcc hx hinv
          go_wp2_with fail
          go_quiet (fail)
          clear m1 m2 m3 m4 m5 m6 m7 m8 e1 e3 e4
          go_wp2
          go_roundw
          case rel => exact ⟨k + 1, by omega, by go_num, by rw [HS.out], below_drewN HB.out.1 _, HB.out.2⟩
          case measure => simp [intOf]; omega
        · obtain rfl : k = 16 := by omega
          clear hinv
          obtain ⟨u, hu⟩ : ∃ u, uS f n 16 = u := ⟨_, rfl⟩
          obtain ⟨g, hg⟩ : ∃ g, near u = g := ⟨_, rfl⟩
          obtain ⟨v, hv⟩ : ∃ v, winS n = v := ⟨_, rfl⟩
          obtain ⟨r, hr⟩ : ∃ r, nr16 (g * v) = r := ⟨_, rfl⟩
          obtain ⟨p1, p2⟩ := le_ab (ab_prod (g_bd HF.out n) (win_bd n))
          have HW := Lib.hid (show bS f n = r by unfold bS gS; rw [hu, hg, hv, hr])
          rw [show gS f n = g by unfold gS; rw [hu, hg], hv] at p1 p2
          rw [hu] at s1 s2
          rw [hu]
          simp only [Int.reduceMul] at p1 p2
          have HG := Lib.hid hg
          have HV := Lib.hid (show sinS (2 * (n : Int) + 1) = v from hv)
          have HR := Lib.hid hr
          have s3 : -1099511627776 ≤ u := by omega
          have s4 : u ≤ 1099511627776 := by omega
          have s5 : -1099511627776 ≤ g * v := by omega
          have s6 : g * v ≤ 1099511627776 := by omega
          have c4 := rowL_cell HB.out.2.2.2.2 n hn32
          have f4 := HB.out.2.2.2.2.frozen n
          clear hu hg hv hr s1 s2
          rw [show ((16 : Nat) : Int) = 16 from rfl]
          go_wp2_with (first
            | (go_at_call 95; (with_reducible refine (refSin_as (2 * (n : Int) + 1) v _ HV.out).mono ?_); rintro e w' ⟨rfl, rfl⟩)
            | (go_at_call 94; (with_reducible refine (refShift_15 u g _ s3 s4 HG.out).mono ?_); rintro e w' ⟨rfl, rfl⟩)
            | (go_at_call 94; (with_reducible refine (refShift_16 (g * v) r _ s5 s6 HR.out).mono ?_); rintro e w' ⟨rfl, rfl⟩))
          go_roundw
          case rel =>
            obtain ⟨b0, b1, b2, b3, b4⟩ := HB.out
            exact ⟨n + 1, by omega, by go_num, b0.setCell (by dsimp only; omega) _, b1.setCell_other (by dsimp only; omega), b2.setCell_other (by dsimp only; omega), b3.setCell_other (by dsimp only; omega), by rw [← HW.out]; exact b4.put hn32⟩
          case measure => simp [intOf]; omega
    · obtain rfl : n = 32 := by omega
      obtain ⟨hb, _, H2', _, H4'⟩ := hinv
      have H2 := Lib.hid H2'
      have H4 := Lib.hid H4'
      clear H2' H4'
      go_wp2_with (first
        | refine wpList_load_row rfl 109 _ rfl bo rfl _ _ (0, 0) _ H4.out Tryz.underlying109 rfl (HI.out _ (rowL_size _ _ _)) ?_
        | refine wpList_store_row rfl 109 _ _ rfl (w.heap.size + 1) (rowL 32 (bS f) 32) rfl rfl _ _ H2.out (HI.out _ (rowL_size _ _ _)) (by rw [HZ.out.1, rowL_size]) (rowL_one _ _ _) ?_)
      exact bodyPost_ret (v := .agg (rowL 32 (bS f) 32)) (results_cell_row rfl _ _ (w.heap.size + 1) 109 (rowL 32 (bS f) 32) (0, 0) _ rfl H2.out.setRow Tryz.underlying109 rfl (HI.out _ (rowL_size _ _ _))) rfl ⟨rfl, below_setRow' hb (by omega) _⟩
end Go.Proofs.YtfohinlldchdpaaGreatDoor.Md
end

section
/- MdRef3 beside Row: the document's Waves. -/
namespace Go.Proofs.YtfohinlldchdpaaGreatDoor.Md
open Go.RowKit Go.Proofs.YtfohinlldchdpaaGreatDoor.Row Go.Proofs.YtfohinlldchdpaaGreatDoor.Ang
set_option linter.unusedVariables false

/-- What holds of the memory while the document's waves are made. -/
def RwInv (w : World) (T U Z : Array Value) (bc bo : Nat) (q : Nat → Int) (k : Nat) (w' : World) : Prop :=
  Below w.heap.size w w' ∧ At w' w.heap.size T 22 ∧ At w' (w.heap.size + 1) U 22 ∧ At w' (w.heap.size + 1 + 1) Z 22 ∧ At w' bc (rowL 128 tabS 128) 111 ∧ At w' bo (rowL 16 q k) 22

theorem rw_start (w w1 : World) (T U Z : Array Value) (q : Nat → Int) (hq : rowL 16 q 0 = Z)
    (h : Below (w.heap.size + 1 + 1 + 1) (((w.alloc (.cells T 22)).alloc (.cells U 22)).alloc (.cells Z 22)) w1) :
    RwInv w T U Z w1.heap.size (w1.heap.size + 1) q 0 ((w1.alloc (.cells (rowL 128 tabS 128) 111)).alloc (.cells Z 22)) := by
  have hs := h.size
  have hb : Below w.heap.size w (((w.alloc (.cells T 22)).alloc (.cells U 22)).alloc (.cells Z 22)) :=
    (((Below.refl _ _).alloc (Nat.le_refl _) _).alloc (by simp) _).alloc (by simp; omega) _
  have hb1 : Below w.heap.size w w1 := hb.trans (h.mono (by omega))
  refine ⟨(hb1.alloc hb1.size _).alloc (by have := hb1.size; simp; omega) _, ?_, ?_, ?_, (At.new _ _ _).alloc _, ?_⟩
  · exact (((((At.new _ _ _).alloc _).alloc _).below h (by omega)).alloc _).alloc _
  · have := (At.new (w.alloc (.cells T 22)) U 22).alloc (.cells Z 22)
    simp only [World.size_alloc] at this
    exact ((this.below h (by omega)).alloc _).alloc _
  · have := At.new ((w.alloc (.cells T 22)).alloc (.cells U 22)) Z 22
    simp only [World.size_alloc] at this
    exact ((this.below h (by omega)).alloc _).alloc _
  · rw [hq]
    have := At.new (w1.alloc (.cells (rowL 128 tabS 128) 111)) Z 22
    simp only [World.size_alloc] at this
    exact this

set_option maxRecDepth 100000 in
set_option maxHeartbeats 2000000 in
theorem refWaves_any (T U : Array Value) (f g : Nat → Int) (hT : IsRow 16 f T) (hU : IsRow 16 g U) (hf : Le 1048576 f) (hg : Le 1048576 g) (w : World) :
    Calls Tryz.prog 40 #[.agg T, .agg U] w fun e w' => e = .returned (.agg (rowL 16 (wS f g) 16)) ∧ Below w.heap.size w w' := by
  obtain ⟨Z, hZ, hZ0, hz, hi⟩ := zero_16
  obtain ⟨C, hC, hC0, hc, hl⟩ := zero_128
  have HT := Lib.hid hT
  have HU := Lib.hid hU
  have HF := Lib.hid hf
  have HG := Lib.hid hg
  have HZ := Lib.hid hZ
  have HC := Lib.hid hC
  have ZE := Lib.hid hZ0
  have HI := Lib.hid hi
  have HL := Lib.hid hl
  clear hT hU hZ0 hi hf hg hZ hC hC0 hl
  go_enter Tryz.func40, Tryz.ntmps40
  go_wp2_with fail
  refine (refTab_any _).mono ?_
  rintro e w1 ⟨rfl, hw1⟩
  have hstart := rw_start w w1 T U Z (wS f g) (ZE.out _) (by simpa using hw1)
  have hge : w.heap.size + 1 + 1 + 1 ≤ w1.heap.size := by simpa using hw1.size
  have HSt := Lib.hid hstart
  clear hw1 hstart
  go_wp2_with (refine wpList_store_row rfl 111 _ _ rfl w1.heap.size (rowL 128 tabS 128) rfl rfl _ _ (heap_alloc_new _ _) (HL.out _ (rowL_size _ _ _)) (by rw [rowL_size, HC.out.1]) (rowL_one _ _ _) ?_; rw [World.setRow_alloc_new])
  revert HSt hge
  generalize (w1.alloc (.cells (rowL 128 tabS 128) 111)).alloc (.cells Z 22) = W
  have gbo : w1.heap.size < w1.heap.size + 1 := Nat.lt_succ_self _
  revert gbo
  generalize w1.heap.size + 1 = bo
  generalize w1.heap.size = bc
  intro gbo hge HSt
  go_loopw [7] (fun i w' => ∃ k : Nat, k ≤ 16 ∧ i = .int .i64 k ∧ RwInv w T U Z bc bo (wS f g) k w') (fun i _ => 16 - (intOf i).toNat)
  case atStart => exact ⟨0, Nat.zero_le _, rfl, HSt.out⟩
  case round =>
    obtain ⟨k, hk, rfl, hinv⟩ := hrel
    clear HSt
    obtain ⟨hb, h0, h1, h2, h3, h4⟩ := hinv
    have H0 := Lib.hid h0
    have H1 := Lib.hid h1
    have H2 := Lib.hid h2
    have H3 := Lib.hid h3
    have H4 := Lib.hid h4
    by_cases hk16 : k < 16
    · have c4 := rowL_cell h4 k hk16
      have f4 := h4.frozen k
      have k1 : (k : Int) < 16 := by omega
      have C4 := Lib.hid c4
      have F4 := Lib.hid f4
      clear h0 h1 h2 h3 h4 c4 f4
      obtain ⟨wo, rfl⟩ : ∃ wo : World, wo = wr := ⟨_, rfl⟩
      go_wp2
      go_loop [8, 9] (fun s i => ∃ n : Nat, n ≤ 32 ∧ i = .int .i64 n ∧ s = .int .i64 (vS f g k n)) (fun _ i => 32 - (intOf i).toNat)
      case atStart => exact ⟨0, Nat.zero_le _, rfl, rfl⟩
      case round =>
        obtain ⟨n, hn, rfl, rfl⟩ := hrel
        obtain ⟨s1, s2⟩ := le_ab (v_bd HF.out HG.out k n hn)
        by_cases hn32 : n < 32
        · obtain ⟨q, i, e1, e2, e3, e4, e5, e6⟩ := idx_nat n k hn32 hk16
          have c3 := (isRow 128 tabS).cell H3.out i e5
          obtain ⟨c, hcc⟩ : ∃ c, tabS i = c := ⟨_, rfl⟩
          obtain ⟨v, hv⟩ : ∃ v, winS n = v := ⟨_, rfl⟩
          obtain ⟨x, hx⟩ : ∃ x, xs2 f g n = x := ⟨_, rfl⟩
          obtain ⟨p, hp⟩ : ∃ p, near (x * v) = p := ⟨_, rfl⟩
          obtain ⟨p1, p2⟩ := le_ab (ab_prod (xs2_bd HF.out HG.out n hn32) (win_bd n))
          obtain ⟨q1, q2⟩ := le_ab (ab_prod (p_bd HF.out HG.out n hn32) (c_bd n k))
          have hpS : pS f g n = p := by unfold pS; rw [hx, hv, hp]
          rw [hpS, e6, hcc] at q1 q2
          rw [hx, hv] at p1 p2
          rw [hcc] at c3
          simp only [Int.reduceMul] at p1 p2 q1 q2 s1 s2
          have HS := Lib.hid (show vS f g k (n + 1) = vS f g k n + p * c by unfold vS; rw [sum, hpS, e6, hcc])
          have HV := Lib.hid (show sinS (2 * (n : Int) + 1) = v from hv)
          have HP := Lib.hid hp
          have i1 : (i : Int) < 128 := by omega
          have n1 : (n : Int) < 32 := by omega
          have w1' : -1099511627776 ≤ x * v := by omega
          have w2' : x * v ≤ 1099511627776 := by omega
          generalize vS f g k n = s at *
          clear e6 hcc hv hp hpS
          by_cases hn16 : n < 16
          · have c0 := HT.out.cell H0.out n hn16
            rw [show f n = x by rw [← hx]; unfold xs2; rw [if_pos hn16]] at c0
            have n2 : (n : Int) < 16 := by omega
            clear hx
            go_wp2_with (first
              | (go_at_call 95; (with_reducible refine (refSin_as (2 * (n : Int) + 1) v _ HV.out).mono ?_); rintro e w' ⟨rfl, rfl⟩)
              | (go_at_call 94; (with_reducible refine (refShift_15 (x * v) p _ w1' w2' HP.out).mono ?_); rintro e w' ⟨rfl, rfl⟩))
            go_round
            case rel => exact ⟨n + 1, by omega, by go_num, by rw [HS.out]⟩
            case measure => simp [intOf]; omega
          · obtain ⟨j, hj⟩ : ∃ j : Nat, n - 16 = j := ⟨_, rfl⟩
            have c0 := HU.out.cell H1.out j (by omega)
            rw [show g j = x by rw [← hx, ← hj]; unfold xs2; rw [if_neg hn16]] at c0
            have n2 : ¬ (n : Int) < 16 := by omega
            have j1 : (n : Int) - 16 = (j : Int) := by omega
            have j2 : (j : Int) < 16 := by omega
            clear hx
            go_wp2_with (first
              | (go_at_call 95; (with_reducible refine (refSin_as (2 * (n : Int) + 1) v _ HV.out).mono ?_); rintro e w' ⟨rfl, rfl⟩)
              | (go_at_call 94; (with_reducible refine (refShift_15 (x * v) p _ w1' w2' HP.out).mono ?_); rintro e w' ⟨rfl, rfl⟩))
            go_round
            case rel => exact ⟨n + 1, by omega, by go_num, by rw [HS.out]⟩
            case measure => simp [intOf]; omega
        · obtain rfl : n = 32 := by omega
          obtain ⟨s, hs⟩ : ∃ s, vS f g k 32 = s := ⟨_, rfl⟩
          obtain ⟨r, hr⟩ : ∃ r, nr17 s = r := ⟨_, rfl⟩
          have HR := Lib.hid hr
          have HW := Lib.hid (show wS f g k = r by unfold wS; rw [hs, hr])
          rw [hs] at s1 s2
          rw [hs]
          have s3 : -1099511627776 ≤ s := by omega
          have s4 : s ≤ 1099511627776 := by omega
          have c4 := C4.out
          have f4 := F4.out
          clear hs hr s1 s2
          rw [show ((32 : Nat) : Int) = 32 from rfl]
          go_wp2_with (go_at_call 94; (with_reducible refine (refShift_17 s r _ s3 s4 HR.out).mono ?_); rintro e w' ⟨rfl, rfl⟩)
          go_roundw
          case rel => exact ⟨k + 1, by omega, by go_num, hb.setCell (by dsimp only; omega) _, H0.out.setCell_other (by dsimp only; omega), H1.out.setCell_other (by dsimp only; omega), H2.out.setCell_other (by dsimp only; omega), H3.out.setCell_other (by dsimp only; omega), by rw [← HW.out]; exact H4.out.put hk16⟩
          case measure => simp [intOf]; omega
    · clear h0 h1 h2 h3 h4
      obtain rfl : k = 16 := by omega
      go_wp2_with (first
        | refine wpList_load_row rfl 22 _ rfl bo rfl _ _ (0, 0) _ H4.out Tryz.underlying22 rfl (HI.out _ (rowL_size _ _ _)) ?_
        | refine wpList_store_row rfl 22 _ _ rfl (w.heap.size + 1 + 1) (rowL 16 (wS f g) 16) rfl rfl _ _ H2.out (HI.out _ (rowL_size _ _ _)) (by rw [HZ.out.1, rowL_size]) (rowL_one _ _ _) ?_)
      exact bodyPost_ret (v := .agg (rowL 16 (wS f g) 16)) (results_cell_row rfl _ _ (w.heap.size + 1 + 1) 22 (rowL 16 (wS f g) 16) (0, 0) _ rfl H2.out.setRow Tryz.underlying22 rfl (HI.out _ (rowL_size _ _ _))) rfl ⟨rfl, below_setRow' hb (by omega) _⟩
end Go.Proofs.YtfohinlldchdpaaGreatDoor.Md
end
