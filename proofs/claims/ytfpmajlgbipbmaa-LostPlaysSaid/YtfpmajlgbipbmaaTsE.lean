/- TlE without Lift: the document's Lay. -/
import Derived.Test.YtfpmajlgbipbmaaTsD
namespace Go.Proofs.Ytfpmajlgbipbmaa.Tl
open Go.RowKit Go.Proofs.Ytfpmajlgbipbmaa.Row
set_option linter.unusedVariables false

theorem rowL_cell_next {w : World} {b m n : Nat} {f : Nat → Int} {t : TypeId} (h : At w b (rowL m f n) t) (k : Nat) (hk : k < m) (r : Int) : (w.setCell ⟨b, k, none⟩ (.int .i64 r)).cell? ⟨b, k, none⟩ = some (.int .i64 r) := by
  have h2 : At (w.setCell ⟨b, k, none⟩ (.int .i64 r)) b _ t := h.setCell (i := k) (v := .int .i64 r)
  rw [cell_of_row _ _ k _ _ _ h2, Array.getElem?_setIfInBounds_self_of_lt (by rw [rowL_size]; exact hk)]

/-- What holds of the memory while the document's row is filled. -/
def RefInv (w w' : World) (T Z : Array Value) (g : Nat → Int) (k : Nat) : Prop :=
  Below w.heap.size w w' ∧ At w' w.heap.size T 22 ∧ At w' (w.heap.size + 1) Z 22 ∧ At w' (w.heap.size + 1 + 1) (rowL 16 g k) 22

theorem ref_start (w : World) (T Z : Array Value) (g : Nat → Int) (h : rowL 16 g 0 = Z) : RefInv w (((w.alloc (.cells T 22)).alloc (.cells Z 22)).alloc (.cells Z 22)) T Z g 0 := by
  refine ⟨(((Below.refl _ _).alloc (Nat.le_refl _) _).alloc (by simp) _).alloc (by simp; omega) _, ((At.new _ _ _).alloc _).alloc _, ?_, ?_⟩
  · have := (At.new (w.alloc (.cells T 22)) Z 22).alloc (.cells Z 22)
    simpa using this
  · have := At.new ((w.alloc (.cells T 22)).alloc (.cells Z 22)) Z 22
    rw [h]
    simpa using this

set_option maxRecDepth 100000 in
set_option maxHeartbeats 1000000 in
theorem refLay_any (last : Int) (T : Array Value) (f : Nat → Int) (w : World) (hT : IsRow 16 f T) :
    Calls Try.prog 29 #[.int .i64 last, .agg T] w fun e w' => e = .returned (.tuple #[.agg (rowL 16 (laS last f) 16), .int .i64 (laS last f 15)]) ∧ Below w.heap.size w w' := by
  obtain ⟨Z, hZ, hZ0, hz, hi⟩ := zero_16
  have HT := Lib.hid hT
  have HZ := Lib.hid hZ
  have HI := Lib.hid hi
  have hstart := ref_start w T Z (laS last f) (hZ0 _)
  obtain ⟨s0, hs0⟩ : ∃ s, outS last f 0 = s := ⟨_, rfl⟩
  have HS0 := Lib.hid hs0
  have HL := Lib.hid (show ct22 last = s0 from hs0)
  clear hT hZ0 hi hZ hs0
  go_enter Try.func29, Try.ntmps29
  go_wp2_with (go_at_call 28; (with_reducible refine (refCut22 last s0 _ HL.out).mono ?_); rintro e w' ⟨rfl, rfl⟩)
  go_loopw [0, 7] (fun l i w' => ∃ k : Nat, k ≤ 16 ∧ i = .int .i64 k ∧ l = .int .i64 (outS last f k) ∧ RefInv w w' T Z (laS last f) k) (fun _ i _ => 16 - (intOf i).toNat)
  case atStart => exact ⟨0, Nat.zero_le _, rfl, by rw [HS0.out], hstart⟩
  case round =>
    obtain ⟨k, hk, rfl, rfl, hb, h0, h1, h2⟩ := hrel
    clear hstart
    have H0 := Lib.hid h0
    have H1 := Lib.hid h1
    have H2 := Lib.hid h2
    obtain ⟨b1, b2⟩ := out_bd last f k
    by_cases hk16 : k < 16
    · obtain ⟨s, hs⟩ : ∃ s, outS last f k = s := ⟨_, rfl⟩
      rw [hs] at b1 b2
      have c0 := HT.out.cell h0 k hk16
      have c2 := rowL_cell h2 k hk16
      have f2 := h2.frozen k
      obtain ⟨x, hx⟩ : ∃ x, f k = x := ⟨_, rfl⟩
      rw [hx] at c0
      obtain ⟨p, hp⟩ : ∃ p, ct22 x = p := ⟨_, rfl⟩
      obtain ⟨q, hq⟩ : ∃ q, prt s = q := ⟨_, rfl⟩
      obtain ⟨r, hr⟩ : ∃ r, ct22 (p + q) = r := ⟨_, rfl⟩
      obtain ⟨p1, p2⟩ := ct22_bd x
      obtain ⟨q1, q2⟩ := prt_bd (b := 2097152) (by omega) (show s ≤ 2097152 by omega)
      rw [hp] at p1 p2
      rw [hq] at q1 q2
      have HG := Lib.hid (show laS last f k = r by show ct22 (ct22 (f k) + prt (outS last f k)) = r; rw [hx, hs, hp, hq, hr])
      have HN := Lib.hid (show outS last f (k + 1) = r by show ct22 (ct22 (f k) + prt (outS last f k)) = r; rw [hx, hs, hp, hq, hr])
      have HP := Lib.hid hp
      have HR := Lib.hid hr
      have k1 : (k : Int) < 16 := by omega
      have hd : (27853 * s).tdiv 32768 = q := hq
      rw [hs]
      clear h0 h1 h2 hx hp hr hs hq
      go_wp2_with (first | (go_at_call 28; (with_reducible refine (refCut22 x p _ HP.out).mono ?_); rintro e w' ⟨rfl, rfl⟩) | (go_at_call 28; (with_reducible refine (refCut22 (p + q) r _ HR.out).mono ?_); rintro e w' ⟨rfl, rfl⟩; have c3 := rowL_cell_next H2.out k hk16 r))
      go_roundw
      case rel => exact ⟨k + 1, by omega, by go_num, by rw [HN.out], hb.setCell (by dsimp only; omega) _, H0.out.setCell_other (by dsimp only; omega), H1.out.setCell_other (by dsimp only; omega), by first | (rw [← HG.out] ; exact H2.out.put hk16) | (have := H2.out.put hk16; rw [HG.out, ← HR.out] at this; exact this)⟩
      case measure => simp [intOf]; omega
    · clear h0 h1 h2
      obtain rfl : k = 16 := by omega
      go_wp2_with (first
        | refine wpList_load_row rfl 22 _ rfl (w.heap.size + 1 + 1) rfl _ _ (0, 0) _ H2.out Try.underlying22 rfl (HI.out _ (rowL_size _ _ _)) ?_
        | refine wpList_store_row rfl 22 _ _ rfl (w.heap.size + 1) (rowL 16 (laS last f) 16) rfl rfl _ _ H1.out (HI.out _ (rowL_size _ _ _)) (by rw [HZ.out.1, rowL_size]) (rowL_one _ _ _) ?_)
      exact bodyPost_ret (v := .tuple #[.agg (rowL 16 (laS last f) 16), .int .i64 (laS last f 15)]) (results_row_int rfl _ _ (w.heap.size + 1) (rowL 16 (laS last f) 16) _ _ rfl rfl H1.out.setRow Try.underlying22 (HI.out _ (rowL_size _ _ _))) rfl ⟨rfl, below_setRow' hb (by omega) _⟩
end Go.Proofs.Ytfpmajlgbipbmaa.Tl
