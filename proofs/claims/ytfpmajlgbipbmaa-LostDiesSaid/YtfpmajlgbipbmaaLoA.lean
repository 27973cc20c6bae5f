/- Contracts: the lowered levels and the halved waves. -/
import Derived.Test.YtfpmajlgbipbmaaLoMath
set_option maxRecDepth 100000
set_option linter.unusedVariables false
namespace Go.Proofs.Ytfpmajlgbipbmaa.Lo
open Go.RowKit Go.Proofs.Ytfpmajlgbipbmaa.Row Go.Proofs.Ytfpmajlgbipbmaa.Md Go.Proofs.Ytfpmajlgbipbmaa.Tl Go.Proofs.Ytfpmajlgbipbmaa.Sta

theorem wr64 (x : Int) : IntKind.i64.wrap x = wrap64 x := IntWalk.i64_left x
theorem max0 (x : Int) : max x 0 = if x < 0 then 0 else x := by split <;> omega

/-- A row that is changed number by number, and a row behind it. -/
def PaI (w : World) (t : TypeId) (m : Nat) (Z : Array Value) (g f : Nat → Int) (k : Nat) (w' : World) : Prop :=
  Below w.heap.size w w' ∧ At w' (w.heap.size + 1) Z t ∧ ∃ X, IsRow m (mix g f k) X ∧ At w' w.heap.size X t
theorem PaI.start {w : World} {t : TypeId} {m : Nat} {T Z : Array Value} (g : Nat → Int) {f : Nat → Int} (hT : IsRow m f T) : PaI w t m Z g f 0 ((w.alloc (.cells T t)).alloc (.cells Z t)) := by
  have a1 := At.new (w.alloc (.cells T t)) Z t
  simp only [World.size_alloc] at a1
  exact ⟨((Below.refl _ _).alloc (Nat.le_refl _) _).alloc (by simp) _, a1, T, hT.ext fun i _ => (mix_0 g f i).symm, (At.new _ _ _).alloc _⟩

set_option maxHeartbeats 1000000 in
theorem lowered_any (T : Array Value) (f : Nat → Int) (w : World) (hT : IsRow 4 f T) :
    Calls Try.prog 18 #[.agg T] w fun e w' => e = .returned (.agg (rowL 4 (lwF f) 4)) ∧ Below w.heap.size w w' := by
  obtain ⟨Z, hZ, _, hz, hi⟩ := zero_4
  have HT := Lib.hid hT
  have HZ := Lib.hid hZ
  have HI := Lib.hid hi
  have hstart := Lib.hid (PaI.start (w := w) (t := 23) (Z := Z) (lwF f) hT)
  have H0 := Lib.hid (((At.new w T 23).alloc (.cells Z 23)))
  clear hT hi hZ
  go_enter Try.func18, Try.ntmps18
  go_wp2_with (refine wpList_load_row rfl 23 _ rfl w.heap.size rfl _ _ (0, 0) _ H0.out Try.underlying23 rfl (HI.out _ HT.out.1) ?_)
  clear H0
  go_loopw [6] (fun i w' => ∃ k : Nat, k ≤ 4 ∧ i = .int .i64 k ∧ Hid (PaI w 23 4 Z (lwF f) f k w')) (fun i _ => 4 - (intOf i).toNat)
  case atStart => exact ⟨0, Nat.zero_le _, rfl, hstart⟩
  case round =>
    obtain ⟨k, hk, rfl, hI⟩ := hrel
    clear hstart
    obtain ⟨hb, h1, X, hX, h0⟩ := hI.out
    clear hI
    have H0 := Lib.hid h0
    have H1 := Lib.hid h1
    have HX := Lib.hid hX
    have HB := Lib.hid hb
    by_cases hk4 : k < 4
    · have hc := HT.out.2.2 k hk4
      obtain ⟨x, hx⟩ : ∃ x, f k = x := ⟨_, rfl⟩
      rw [hx] at hc
      have hr := run_index Try.underlying23 hk4 hc
      have k1 : (k : Int) < 4 := by omega
      have k0 : (0 : Int) ≤ (k : Int) := by omega
      have HG := Lib.hid (show lwF f k = if wrap64 (x - 1) < 0 then 0 else wrap64 (x - 1) by rw [← hx]; unfold lwF; rw [wr64, max0])
      have c2 := HX.out.cell h0 k hk4
      have f2 := h0.frozen k
      clear h0 h1 hX hc hx hb
      go_wp2_with fail
      go_roundw
      case rel => exact ⟨k + 1, by omega, by go_num, Lib.hid ⟨HB.out.setCell (by dsimp only; omega) _, At.setCell_other H1.out (by dsimp only; omega), _, (HX.out.set (k := k) _ hk4).ext fun i _ => by rw [← mix_next _ _ k i, HG.out], At.setCell H0.out⟩⟩
      case measure => simp [intOf]; omega
    · clear h0 h1
      obtain rfl : k = 4 := by omega
      obtain rfl : X = rowL 4 (lwF f) 4 := hX.eq (isRow _ _) fun i hi => mix_all _ _ 4 i hi
      clear hX
      go_wp2_with (first
        | refine wpList_load_row rfl 23 _ rfl w.heap.size rfl _ _ (0, 0) _ H0.out Try.underlying23 rfl (HI.out _ (rowL_size _ _ _)) ?_
        | refine wpList_store_row rfl 23 _ _ rfl (w.heap.size + 1) (rowL 4 (lwF f) 4) rfl rfl _ _ H1.out (HI.out _ (rowL_size _ _ _)) (by rw [HZ.out.1, rowL_size]) (rowL_one _ _ _) ?_)
      exact bodyPost_ret (v := .agg (rowL 4 (lwF f) 4)) (results_cell_row rfl _ _ (w.heap.size + 1) 23 (rowL 4 (lwF f) 4) (0, 0) _ rfl H1.out.setRow Try.underlying23 rfl (HI.out _ (rowL_size _ _ _))) rfl ⟨rfl, below_setRow' HB.out (by omega) _⟩

set_option maxHeartbeats 1000000 in
theorem halved_any (T : Array Value) (f : Nat → Int) (l : Int) (w : World) (hT : IsRow 16 f T) :
    Calls Try.prog 19 #[.agg T, .int .i64 l] w fun e w' => e = .returned (.agg (rowL 16 (hvF f l) 16)) ∧ Below w.heap.size w w' := by
  obtain ⟨Z, hZ, _, hz, hi⟩ := zero_b
  obtain ⟨D, hD, bD⟩ := built_b
  have HT := Lib.hid hT
  have HZ := Lib.hid hZ
  have HI := Lib.hid hi
  have HBD := Lib.hid bD
  have hstart := Lib.hid (PaI.start (w := w) (t := 29) (Z := Z) (hvF f l) hT)
  have H0 := Lib.hid (((At.new w T 29).alloc (.cells Z 29)))
  by_cases hl : 8 ≤ l
  · obtain rfl : D = rowL 16 (hvF f l) 16 := hD.eq (isRow _ _) fun i hi => by unfold hvF; rw [if_pos hl]
    have hd : decide (l ≥ 8) = true := decide_eq_true hl
    clear hT hi hZ bD hD
    go_enter Try.func19, Try.ntmps19
    obtain ⟨hb, h1, _⟩ := hstart.out
    have H1 := Lib.hid h1
    have HB := Lib.hid hb
    clear h1 hb hstart
    go_wp2_with (first
      | refine wpList_build_parts (by rfl) 29 [] rfl _ rfl HBD.out ?_
      | refine wpList_store_row rfl 29 _ _ rfl (w.heap.size + 1) (rowL 16 (hvF f l) 16) rfl rfl _ _ H1.out (HI.out _ (rowL_size _ _ _)) (by rw [HZ.out.1, rowL_size]) (rowL_one _ _ _) ?_)
    exact bodyPost_ret (v := .agg (rowL 16 (hvF f l) 16)) (results_cell_row rfl _ _ (w.heap.size + 1) 29 (rowL 16 (hvF f l) 16) (0, 0) _ rfl H1.out.setRow Try.underlying29 rfl (HI.out _ (rowL_size _ _ _))) rfl ⟨rfl, below_setRow' HB.out (by omega) _⟩
  · have hd : decide (l ≥ 8) = false := decide_eq_false hl
    have HL := Lib.hid hl
    clear hT hi hZ bD hD HBD hl
    go_enter Try.func19, Try.ntmps19
    go_wp2_with (refine wpList_load_row rfl 29 _ rfl w.heap.size rfl _ _ (0, 0) _ H0.out Try.underlying29 rfl (HI.out _ HT.out.1) ?_)
    clear H0 hd
    go_loopw [11] (fun i w' => ∃ k : Nat, k ≤ 16 ∧ i = .int .i64 k ∧ Hid (PaI w 29 16 Z (hvF f l) f k w')) (fun i _ => 16 - (intOf i).toNat)
    case atStart => exact ⟨0, Nat.zero_le _, rfl, hstart⟩
    case round =>
      obtain ⟨k, hk, rfl, hI⟩ := hrel
      clear hstart
      obtain ⟨hb, h1, X, hX, h0⟩ := hI.out
      clear hI
      have H0 := Lib.hid h0
      have H1 := Lib.hid h1
      have HX := Lib.hid hX
      have HB := Lib.hid hb
      by_cases hk16 : k < 16
      · have hc := HT.out.2.2 k hk16
        obtain ⟨x, hx⟩ : ∃ x, f k = x := ⟨_, rfl⟩
        rw [hx] at hc
        have hr := run_index Try.underlying29 hk16 hc
        have k1 : (k : Int) < 16 := by omega
        have k0 : (0 : Int) ≤ (k : Int) := by omega
        have HG := Lib.hid (show hvF f l k = wrap64 (x.tdiv 2) by rw [← hx]; unfold hvF; rw [if_neg (Int.not_le.2 HL.out), wr64])
        have c2 := HX.out.cell h0 k hk16
        have f2 := h0.frozen k
        clear h0 h1 hX hc hx hb HL
        go_wp2_with fail
        go_roundw
        case rel => exact ⟨k + 1, by omega, by go_num, Lib.hid ⟨HB.out.setCell (by dsimp only; omega) _, At.setCell_other H1.out (by dsimp only; omega), _, (HX.out.set (k := k) _ hk16).ext fun i _ => by rw [← mix_next _ _ k i, HG.out], At.setCell H0.out⟩⟩
        case measure => simp [intOf]; omega
      · clear h0 h1
        obtain rfl : k = 16 := by omega
        obtain rfl : X = rowL 16 (hvF f l) 16 := hX.eq (isRow _ _) fun i hi => mix_all _ _ 16 i hi
        clear hX
        go_wp2_with (first
          | refine wpList_load_row rfl 29 _ rfl w.heap.size rfl _ _ (0, 0) _ H0.out Try.underlying29 rfl (HI.out _ (rowL_size _ _ _)) ?_
          | refine wpList_store_row rfl 29 _ _ rfl (w.heap.size + 1) (rowL 16 (hvF f l) 16) rfl rfl _ _ H1.out (HI.out _ (rowL_size _ _ _)) (by rw [HZ.out.1, rowL_size]) (rowL_one _ _ _) ?_)
        exact bodyPost_ret (v := .agg (rowL 16 (hvF f l) 16)) (results_cell_row rfl _ _ (w.heap.size + 1) 29 (rowL 16 (hvF f l) 16) (0, 0) _ rfl H1.out.setRow Try.underlying29 rfl (HI.out _ (rowL_size _ _ _))) rfl ⟨rfl, below_setRow' HB.out (by omega) _⟩
end Go.Proofs.Ytfpmajlgbipbmaa.Lo
