/- Contracts: fix.Shift by 15, 16, 17, fix.Cut to 32, mdct.turn, mdct.Held, the statements' Small. -/
import Derived.Test.YtabenllglldkkaaMdRow
import Derived.Test.YtabenllglldkkaaMdMath
namespace Go.Proofs.Ytabenllglldkkaa.Md
open Go.RowKit Go.Proofs.Ytabenllglldkkaa.Ang

theorem half_16 (x : Int) (w : World) (h1 : -9000000000000000000 ≤ x) (h2 : x ≤ 9000000000000000000) :
    Calls Try.prog 35 #[.int .i64 x, .int .i64 16] w fun e w' => e = .returned (.int .i64 ((x + 32768) / 65536)) ∧ w = w' := by
  go_enter Try.func35, Try.ntmps35
  go_wp2
  go_ret
  exact ⟨rfl, rfl⟩
theorem half_17 (x : Int) (w : World) (h1 : -9000000000000000000 ≤ x) (h2 : x ≤ 9000000000000000000) :
    Calls Try.prog 35 #[.int .i64 x, .int .i64 17] w fun e w' => e = .returned (.int .i64 ((x + 65536) / 131072)) ∧ w = w' := by
  go_enter Try.func35, Try.ntmps35
  go_wp2
  go_ret
  exact ⟨rfl, rfl⟩
theorem shift_16 (x : Int) (w : World) (h1 : -1099511627776 ≤ x) (h2 : x ≤ 1099511627776) :
    Calls Try.prog 24 #[.int .i64 x, .int .i64 16] w fun e w' => e = .returned (.int .i64 (nr16 x)) ∧ w = w' := by
  go_enter Try.func24, Try.ntmps24
  go_wp2_with (first
    | (go_at_call 34; refine (within_yes _ _ _ (by omega) (by omega) (by omega) (by omega)).mono ?_; rintro e w' ⟨rfl, rfl⟩)
    | (go_at_call 35; refine (half_16 _ _ (by omega) (by omega)).mono ?_; rintro e w' ⟨rfl, rfl⟩))
  go_ret
  exact ⟨rfl, rfl⟩
theorem shift_17 (x : Int) (w : World) (h1 : -1099511627776 ≤ x) (h2 : x ≤ 1099511627776) :
    Calls Try.prog 24 #[.int .i64 x, .int .i64 17] w fun e w' => e = .returned (.int .i64 (nr17 x)) ∧ w = w' := by
  go_enter Try.func24, Try.ntmps24
  go_wp2_with (first
    | (go_at_call 34; refine (within_yes _ _ _ (by omega) (by omega) (by omega) (by omega)).mono ?_; rintro e w' ⟨rfl, rfl⟩)
    | (go_at_call 35; refine (half_17 _ _ (by omega) (by omega)).mono ?_; rintro e w' ⟨rfl, rfl⟩))
  go_ret
  exact ⟨rfl, rfl⟩

/-- A number cut to 32 bits. -/
def ct (x : Int) : Int := max (-2147483648) (min x 2147483647)
theorem ct_bd (x : Int) : -2147483648 ≤ ct x ∧ ct x ≤ 2147483647 := by unfold ct; omega
theorem cut_any (x : Int) (w : World) :
    Calls Try.prog 27 #[.int .i64 x, .int .i64 32] w fun e w' => e = .returned (.int .i64 (ct x)) ∧ w = w' := by
  by_cases c1 : x < -2147483648
  · go_enter Try.func27, Try.ntmps27
    go_wp2
    go_ret
    exact ⟨ret_int (by unfold ct; omega), rfl⟩
  · by_cases c2 : 2147483647 < x
    · go_enter Try.func27, Try.ntmps27
      go_wp2
      go_ret
      exact ⟨ret_int (by unfold ct; omega), rfl⟩
    · have h : ¬ (x ≤ -2147483648) ∨ x = -2147483648 := by omega
      rcases h with h | rfl
      · go_enter Try.func27, Try.ntmps27
        go_wp2
        go_ret
        exact ⟨ret_int (by unfold ct; omega), rfl⟩
      · go_enter Try.func27, Try.ntmps27
        go_wp2
        go_ret
        exact ⟨ret_int (by decide), rfl⟩

theorem turn_any (n k : Nat) (w : World) (hn : n < 32) (hk : k < 16) :
    Calls Try.prog 22 #[.int .i64 n, .int .i64 k] w fun e w' => e = .returned (.int .i64 (((2 * n + 17) * (2 * k + 1) % 128 : Nat) : Int)) ∧ w = w' := by
  have hp : (2 * (n : Int) + 16 + 1) * (2 * (k : Int) + 1) = (((2 * n + 17) * (2 * k + 1) : Nat) : Int) := by
    rw [Int.natCast_mul]; congr 1
  have hb : (2 * n + 17) * (2 * k + 1) ≤ 79 * 31 := Nat.mul_le_mul (by omega) (by omega)
  obtain ⟨q, hq⟩ : ∃ q : Nat, (2 * n + 17) * (2 * k + 1) = q := ⟨_, rfl⟩
  rw [hq] at hp hb
  rw [hq]
  clear hq
  go_enter Try.func22, Try.ntmps22
  go_wp2
  go_ret
  exact ⟨ret_int (by omega), rfl⟩

/-- What holds of the memory while Small's row is filled. -/
def SmallInv (w w' : World) (T Z : Array Value) (g : Nat → Int) (k : Nat) : Prop :=
  Below w.heap.size w w' ∧ At w' w.heap.size T 22 ∧ At w' (w.heap.size + 1) Z 24 ∧ At w' (w.heap.size + 1 + 1) (rowL 16 g k) 24

def smS (f : Nat → Int) (k : Nat) : Int := (f k).tmod 65537

set_option maxHeartbeats 400000 in
theorem small_any (T : Array Value) (f : Nat → Int) (hT : IsRow 16 f T) (w : World) :
    Calls Try.prog 9 #[.agg T] w fun e w' => e = .returned (.agg (rowL 16 (smS f) 16)) ∧ Below w.heap.size w w' := by
  obtain ⟨Z, _, hZ0, hz, hi⟩ := zero_block
  have HT := Lib.hid hT
  have ZE := Lib.hid hZ0
  have HI := Lib.hid hi
  have hstart : SmallInv w (((w.alloc (.cells T 22)).alloc (.cells Z 24)).alloc (.cells Z 24)) T Z (smS f) 0 := by
    refine ⟨(((Below.refl _ _).alloc (Nat.le_refl _) _).alloc (by simp) _).alloc (by simp; omega) _, ((At.new _ _ _).alloc _).alloc _, ?_, ?_⟩
    · have := (At.new (w.alloc (.cells T 22)) Z 24).alloc (.cells Z 24)
      simpa using this
    · have := At.new ((w.alloc (.cells T 22)).alloc (.cells Z 24)) Z 24
      rw [ZE.out]
      simpa using this
  clear hT hZ0 hi
  go_enter Try.func9, Try.ntmps9
  go_wp2
  go_loopw [4] (fun i w' => ∃ k : Nat, k ≤ 16 ∧ i = .int .i64 k ∧ SmallInv w w' T Z (smS f) k) (fun i _ => 16 - (intOf i).toNat)
  case atStart => exact ⟨0, Nat.zero_le _, rfl, hstart⟩
  case round =>
    obtain ⟨k, hk, rfl, hinv⟩ := hrel
    clear hstart
    obtain ⟨hb, h0, h1, h2⟩ := hinv
    have H0 := Lib.hid h0
    have H1 := Lib.hid h1
    have H2 := Lib.hid h2
    by_cases hk16 : k < 16
    · have c0 := HT.out.cell h0 k hk16
      have c2 := rowL_cell h2 k hk16
      have f2 := h2.frozen k
      obtain ⟨x, hx⟩ : ∃ x, f k = x := ⟨_, rfl⟩
      have HX := Lib.hid (show smS f k = x.tmod 65537 by unfold smS; rw [hx])
      rw [hx] at c0
      have k1 : (k : Int) < 16 := by omega
      clear h0 h1 h2 hx
      go_wp2
      go_roundw
      case rel => exact ⟨k + 1, by omega, by go_num, hb.setCell (by simp; omega) _, H0.out.setCell_other (by simp; omega), H1.out.setCell_other (by simp), by rw [← HX.out]; exact H2.out.put hk16⟩
      case measure => simp [intOf]; omega
    · clear h0 h1 h2
      obtain rfl : k = 16 := by omega
      go_wp2_with (first
        | refine wpList_load_row rfl 24 _ rfl (w.heap.size + 1 + 1) rfl _ _ (0, 0) _ H2.out Try.underlying24 rfl (HI.out _ (rowL_size _ _ _)) ?_
        | refine wpList_store_row rfl 24 _ _ rfl (w.heap.size + 1) (rowL 16 (smS f) 16) rfl rfl _ _ H1.out (HI.out _ (rowL_size _ _ _)) (by rw [← ZE.out (smS f), rowL_size, rowL_size]) (rowL_one _ _ _) ?_)
      exact bodyPost_ret (v := .agg (rowL 16 (smS f) 16)) (results_cell_row rfl _ _ (w.heap.size + 1) 24 (rowL 16 (smS f) 16) (0, 0) _ rfl H1.out.setRow Try.underlying24 rfl (HI.out _ (rowL_size _ _ _))) rfl ⟨rfl, below_setRow' hb (by omega) _⟩
end Go.Proofs.Ytabenllglldkkaa.Md
