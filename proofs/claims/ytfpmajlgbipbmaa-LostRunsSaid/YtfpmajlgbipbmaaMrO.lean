/- MdB beside Row: mdct.Over. -/
import Derived.Test.YtfpmajlgbipbmaaMrA
namespace Go.Proofs.Ytfpmajlgbipbmaa.Md
open Go.RowKit Go.Proofs.Ytfpmajlgbipbmaa.Row Go.Proofs.Ytfpmajlgbipbmaa.Ang
set_option linter.unusedVariables false

/-- What holds of the memory while Over's row is filled. -/
def OverInv (w w' : World) (T U Z : Array Value) (g : Nat → Int) (k : Nat) : Prop :=
  Below w.heap.size w w' ∧ At w' w.heap.size T 29 ∧ At w' (w.heap.size + 1) U 29 ∧ At w' (w.heap.size + 1 + 1) Z 29 ∧ At w' (w.heap.size + 1 + 1 + 1) (rowL 16 g k) 29

theorem over_start (w : World) (T U Z : Array Value) (g : Nat → Int) (h : rowL 16 g 0 = Z) : OverInv w ((((w.alloc (.cells T 29)).alloc (.cells U 29)).alloc (.cells Z 29)).alloc (.cells Z 29)) T U Z g 0 := by
  refine ⟨((((Below.refl _ _).alloc (Nat.le_refl _) _).alloc (by simp) _).alloc (by simp; omega) _).alloc (by simp; omega) _, (((At.new _ _ _).alloc _).alloc _).alloc _, ?_, ?_, ?_⟩
  · have := ((At.new (w.alloc (.cells T 29)) U 29).alloc (.cells Z 29)).alloc (.cells Z 29)
    simpa using this
  · have := (At.new ((w.alloc (.cells T 29)).alloc (.cells U 29)) Z 29).alloc (.cells Z 29)
    simpa using this
  · have := At.new (((w.alloc (.cells T 29)).alloc (.cells U 29)).alloc (.cells Z 29)) Z 29
    rw [h]
    simpa using this

set_option maxHeartbeats 1000000 in
theorem over_any (T U : Array Value) (f g : Nat → Int) (hT : IsRow 16 f T) (hU : IsRow 16 g U) (w : World) :
    Calls Try.prog 25 #[.agg T, .agg U] w fun e w' => e = .returned (.agg (rowL 16 (ovS f g) 16)) ∧ Below w.heap.size w w' := by
  obtain ⟨Z, _, hZ0, hz, hi⟩ := zero_block
  have HT := Lib.hid hT
  have HU := Lib.hid hU
  have ZE := Lib.hid hZ0
  have HI := Lib.hid hi
  have hstart := over_start w T U Z (ovS f g) (hZ0 _)
  clear hT hU hZ0 hi
  go_enter Try.func25, Try.ntmps25
  go_wp2
  go_loopw [7] (fun i w' => ∃ k : Nat, k ≤ 16 ∧ i = .int .i64 k ∧ OverInv w w' T U Z (ovS f g) k) (fun i _ => 16 - (intOf i).toNat)
  case atStart => exact ⟨0, Nat.zero_le _, rfl, hstart⟩
  case round =>
    obtain ⟨k, hk, rfl, hinv⟩ := hrel
    clear hstart
    obtain ⟨hb, h0, h1, h2, h3⟩ := hinv
    have H0 := Lib.hid h0
    have H1 := Lib.hid h1
    have H2 := Lib.hid h2
    have H3 := Lib.hid h3
    by_cases hk16 : k < 16
    · have c0 := HT.out.cell h0 k hk16
      have c1 := HU.out.cell h1 k hk16
      have c3 := rowL_cell h3 k hk16
      have f3 := h3.frozen k
      obtain ⟨x, hx⟩ : ∃ x, f k = x := ⟨_, rfl⟩
      obtain ⟨y, hy⟩ : ∃ x, g k = x := ⟨_, rfl⟩
      obtain ⟨p, hp⟩ : ∃ p, ct x = p := ⟨_, rfl⟩
      obtain ⟨q, hq⟩ : ∃ q, ct y = q := ⟨_, rfl⟩
      obtain ⟨r, hr⟩ : ∃ r, ct (p + q) = r := ⟨_, rfl⟩
      obtain ⟨p1, p2⟩ := ct_bd x
      obtain ⟨q1, q2⟩ := ct_bd y
      rw [hp] at p1 p2
      rw [hq] at q1 q2
      have HX := Lib.hid (show ovS f g k = r by unfold ovS; rw [hx, hy, hp, hq, hr])
      rw [hx] at c0
      rw [hy] at c1
      have HP := Lib.hid hp
      have HQ := Lib.hid hq
      have HR := Lib.hid hr
      have k1 : (k : Int) < 16 := by omega
      have k0 : (0 : Int) ≤ (k : Int) := by omega
      have hs : IntKind.i64.wrap (p + q) = p + q := IntWalk.i64_in _ (by omega)
      clear h0 h1 h2 h3 hx hy hp hq hr
      go_wp2_with fail
      go_region_held3 (fun w' => w'.cell? ⟨w.heap.size, k, none⟩ = some (.int .i64 x) ∧ w'.cell? ⟨w.heap.size + 1, k, none⟩ = some (.int .i64 y)) (first | assumption | exact ⟨c0, c1⟩ | exact cells2 ⟨c0, c1⟩ (by dsimp only; omega) (by dsimp only; omega))
        (first
          | (go_at_call 23; (with_reducible refine (cut_as x p _ HP.out).mono ?_); rintro e w' ⟨rfl, rfl⟩)
          | (go_at_call 23; (with_reducible refine (cut_as y q _ HQ.out).mono ?_); rintro e w' ⟨rfl, rfl⟩)
          | (go_at_call 23; (with_reducible refine (cut_as (p + q) r _ HR.out).mono ?_); rintro e w' ⟨rfl, rfl⟩))
      go_wp2
      go_roundw
      case rel => exact ⟨k + 1, by omega, by go_num, (hb.setCell (by dsimp only; omega) _).drew, H0.out.setCell_other (by dsimp only; omega), H1.out.setCell_other (by dsimp only; omega), H2.out.setCell_other (by dsimp only; omega), by rw [← HX.out]; exact H3.out.put hk16⟩
      case measure => simp [intOf]; omega
    · clear h0 h1 h2 h3
      obtain rfl : k = 16 := by omega
      go_wp2_with (first
        | refine wpList_load_row rfl 29 _ rfl (w.heap.size + 1 + 1 + 1) rfl _ _ (0, 0) _ H3.out Try.underlying29 rfl (HI.out _ (rowL_size _ _ _)) ?_
        | refine wpList_store_row rfl 29 _ _ rfl (w.heap.size + 1 + 1) (rowL 16 (ovS f g) 16) rfl rfl _ _ H2.out (HI.out _ (rowL_size _ _ _)) (by rw [← ZE.out (ovS f g), rowL_size, rowL_size]) (rowL_one _ _ _) ?_)
      exact bodyPost_ret (v := .agg (rowL 16 (ovS f g) 16)) (results_cell_row rfl _ _ (w.heap.size + 1 + 1) 29 (rowL 16 (ovS f g) 16) (0, 0) _ rfl H2.out.setRow Try.underlying29 rfl (HI.out _ (rowL_size _ _ _))) rfl ⟨rfl, below_setRow' hb (by omega) _⟩
end Go.Proofs.Ytfpmajlgbipbmaa.Md
