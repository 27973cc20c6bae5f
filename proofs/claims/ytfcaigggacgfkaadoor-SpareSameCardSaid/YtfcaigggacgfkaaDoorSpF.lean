/- Contract of spare's Pulses where there can be no such levels or bits. -/
import Derived.Test.YtfcaigggacgfkaaDoorSpE
set_option maxRecDepth 100000
set_option linter.unusedVariables false
namespace Go.Proofs.YtfcaigggacgfkaaDoor.Sp
open Go.RowKit Go.Proofs.YtfcaigggacgfkaaDoor.Row

set_option maxHeartbeats 800000 in
theorem pulses_no (TL : Array Value) (L : Nat → Int) (bits : Int) (w : World) (hR : IsRow 4 L TL) (h : ¬ (okL L ∧ 0 ≤ bits ∧ bits ≤ 1048576)) :
    Calls Tryd.prog 10 #[.agg TL, .int .i64 bits] w (RetR 4 w fun _ => 0) := by
  obtain ⟨Z, hZ, hZ0, hz, hi⟩ := zero4
  have HR := Lib.hid hR
  have HZ := Lib.hid hZ
  have HIL := Lib.hid (hi TL hR.1)
  have HIZ := Lib.hid (hi Z hZ.1)
  have HS := Lib.hid (PuS.start w TL Z)
  by_cases hL : okL L
  · have HAL := Lib.hid (fun w' => areLevels_yes TL L w' hR hL)
    by_cases hb : bits < 0
    · have b1 : decide (bits < 0) = true := decide_eq_true hb
      clear hZ hZ0 hi hR hL h
      go_enter Tryd.func10, Tryd.ntmps10
      go_wp2_with (refine wpList_load_row rfl 22 _ rfl w.heap.size rfl _ _ (0, 0) _ HS.out.1 Tryd.underlying22 rfl HIL.out ?_)
      go_step3
      go_wp2_with (refine wpList_load_row rfl 22 _ rfl w.heap.size rfl _ _ (0, 0) _ HS.out.1 Tryd.underlying22 rfl HIL.out ?_)
      refine (HAL.out _).mono ?_
      rintro e w1 ⟨rfl, hb1⟩
      have HS1 := Lib.hid (HS.out.next hb1)
      clear hb1 HS HAL
      go_wp2_with (first
        | refine wpList_load_row rfl 22 _ rfl (w.heap.size + 2) rfl _ _ (0, 0) _ HS1.out.2.2.1 Tryd.underlying22 rfl HIZ.out ?_
        | refine wpList_store_row rfl 22 _ _ rfl (w.heap.size + 1) Z rfl rfl _ _ HS1.out.2.1 HIZ.out rfl HZ.out.2.1 ?_)
      rw [Exit.noGoto_ret]
      exact bodyPost_ret (v := .agg Z) (results_cell_row rfl _ _ (w.heap.size + 1) 22 Z (0, 0) _ rfl HS1.out.2.1.setRow Tryd.underlying22 rfl HIZ.out) rfl ⟨⟨Z, rfl, HZ.out⟩, below_setRow' HS1.out.2.2.2 (by omega) _⟩
    · have b1 : decide (bits < 0) = false := decide_eq_false hb
      have hb2 : 1048576 < bits := by
        by_cases c : 1048576 < bits
        · exact c
        · exact absurd ⟨hL, by omega, by omega⟩ h
      have b2 : decide (1048576 < bits) = true := decide_eq_true hb2
      clear hZ hZ0 hi hR hL h
      go_enter Tryd.func10, Tryd.ntmps10
      go_wp2_with (refine wpList_load_row rfl 22 _ rfl w.heap.size rfl _ _ (0, 0) _ HS.out.1 Tryd.underlying22 rfl HIL.out ?_)
      go_step3
      go_wp2_with (refine wpList_load_row rfl 22 _ rfl w.heap.size rfl _ _ (0, 0) _ HS.out.1 Tryd.underlying22 rfl HIL.out ?_)
      refine (HAL.out _).mono ?_
      rintro e w1 ⟨rfl, hb1⟩
      have HS1 := Lib.hid (HS.out.next hb1)
      clear hb1 HS HAL
      go_wp2_with (first
        | refine wpList_load_row rfl 22 _ rfl (w.heap.size + 2) rfl _ _ (0, 0) _ HS1.out.2.2.1 Tryd.underlying22 rfl HIZ.out ?_
        | refine wpList_store_row rfl 22 _ _ rfl (w.heap.size + 1) Z rfl rfl _ _ HS1.out.2.1 HIZ.out rfl HZ.out.2.1 ?_)
      rw [Exit.noGoto_ret]
      exact bodyPost_ret (v := .agg Z) (results_cell_row rfl _ _ (w.heap.size + 1) 22 Z (0, 0) _ rfl HS1.out.2.1.setRow Tryd.underlying22 rfl HIZ.out) rfl ⟨⟨Z, rfl, HZ.out⟩, below_setRow' HS1.out.2.2.2 (by omega) _⟩
  · have HAL := Lib.hid (fun w' => areLevels_no TL L w' hR hL)
    clear hZ hZ0 hi hR hL h
    go_enter Tryd.func10, Tryd.ntmps10
    go_wp2_with (refine wpList_load_row rfl 22 _ rfl w.heap.size rfl _ _ (0, 0) _ HS.out.1 Tryd.underlying22 rfl HIL.out ?_)
    go_step3
    go_wp2_with (refine wpList_load_row rfl 22 _ rfl w.heap.size rfl _ _ (0, 0) _ HS.out.1 Tryd.underlying22 rfl HIL.out ?_)
    refine (HAL.out _).mono ?_
    rintro e w1 ⟨rfl, hb1⟩
    have HS1 := Lib.hid (HS.out.next hb1)
    clear hb1 HS HAL
    go_wp2_with (first
      | refine wpList_load_row rfl 22 _ rfl (w.heap.size + 2) rfl _ _ (0, 0) _ HS1.out.2.2.1 Tryd.underlying22 rfl HIZ.out ?_
      | refine wpList_store_row rfl 22 _ _ rfl (w.heap.size + 1) Z rfl rfl _ _ HS1.out.2.1 HIZ.out rfl HZ.out.2.1 ?_)
    rw [Exit.noGoto_ret]
    exact bodyPost_ret (v := .agg Z) (results_cell_row rfl _ _ (w.heap.size + 1) 22 Z (0, 0) _ rfl HS1.out.2.1.setRow Tryd.underlying22 rfl HIZ.out) rfl ⟨⟨Z, rfl, HZ.out⟩, below_setRow' HS1.out.2.2.2 (by omega) _⟩
end Go.Proofs.YtfcaigggacgfkaaDoor.Sp
