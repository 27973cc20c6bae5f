/- The statements' walks of layer 4, first part: MdctLays. -/
import Derived.Test.YtabenllglldkkaaMdMv
import Derived.Test.YtabenllglldkkaaMdRef
namespace Go.Proofs.Ytabenllglldkkaa.Md
open Go.RowKit Go.Proofs.Ytabenllglldkkaa.Ang

theorem ct_ct (x : Int) : ct (ct x + ct 0) = ct x := by unfold ct; omega
theorem ov_zero (f : Nat → Int) (k : Nat) : ovS f (fun _ => 0) k = ct (f k) := ct_ct (f k)
theorem ov_comm (f g : Nat → Int) (k : Nat) : ovS f g k = ovS g f k := by unfold ovS; rw [Int.add_comm]
theorem ov_twice (f : Nat → Int) (k : Nat) : ovS (ovS f fun _ => 0) (fun _ => 0) k = ovS f (fun _ => 0) k := by
  rw [ov_zero, ov_zero]; unfold ct; omega

theorem enter_over (args : Array Value) (w : World) : (callFunc 12 args).run Try.prog w = .ok (.enter 12 args) w := run_enter Try.func12 (by kernel_rfl) rfl args w

/-- What stands while MdctLays looks at the numbers. -/
def LayInv (w w' : World) (T U R : Array Value) (b : Nat) : Prop :=
  Below w.heap.size w w' ∧ At w' w.heap.size T 22 ∧ At w' (w.heap.size + 1) U 22 ∧ At w' b R 24

set_option maxRecDepth 100000 in
set_option maxHeartbeats 1000000 in
theorem mdctLays_walk (T U : Array Value) (f g : Nat → Int) (hT : IsRow 16 f T) (hU : IsRow 16 g U) (w : World) :
    Calls Try.prog 7 #[.agg T, .agg U] w fun e w' => e = .returned (.bool true) ∧ Below w.heap.size w w' := by
  obtain ⟨Z, hZ, hZ0, hz, hi⟩ := zero_block
  obtain ⟨Y, hY, hY0, hy, hj⟩ := zero_16
  obtain ⟨E, hE, bE⟩ := built_none
  have HT := Lib.hid hT
  have HU := Lib.hid hU
  have HZ := Lib.hid hZ
  have HE := Lib.hid hE
  have BE := Lib.hid bE
  have HI := Lib.hid hi
  have HJ := Lib.hid hj
  obtain ⟨R, hR⟩ : ∃ A, rowL 16 (ovS f fun _ => 0) 16 = A := ⟨_, rfl⟩
  have RR := Lib.hid (show IsRow 16 (ovS f fun _ => 0) R by rw [← hR]; exact isRow _ _)
  have CR := Lib.hid (fun w => over_any T E f (fun _ => 0) hT hE w)
  rw [hR] at CR
  have hb0 : Below w.heap.size w ((w.alloc (.cells T 22)).alloc (.cells U 22)) := ((Below.refl _ _).alloc (Nat.le_refl _) _).alloc (by simp) _
  have a0 := (At.new w T 22).alloc (.cells U 22)
  have a1 := At.new (w.alloc (.cells T 22)) U 22
  rw [World.size_alloc] at a1
  have A0 := Lib.hid a0
  have A1 := Lib.hid a1
  have B0 := Lib.hid hb0
  clear hT hU hZ hE bE hi hj hR hZ0 hY0 a0 a1 hb0 hY
  go_enter Try.func7, Try.ntmps7
  go_wp2_with fail
  refine (awake_yes _).mono ?_
  rintro e w1 ⟨rfl, hw1⟩
  have A2 := Lib.hid (A0.out.below hw1 A0.out.lt)
  have A3 := Lib.hid (A1.out.below hw1 A1.out.lt)
  have B1 := Lib.hid (below_trans B0.out hw1 B0.out.size)
  clear A0 A1 B0 hw1
  go_wp2_with (first
    | refine wpList_load_wanted (by rfl) 22 _ rfl w.heap.size rfl _ _ _ _ A2.out Try.underlying22 (HJ.out _ HT.out.1) ?_
    | refine wpList_build_wanted (by rfl) 24 #[] rfl E (BE.out _) ?_)
  refine (CR.out _).mono ?_
  rintro e w2 ⟨rfl, hw2⟩
  have A4 := Lib.hid (A2.out.below hw2 A2.out.lt)
  have A5 := Lib.hid (A3.out.below hw2 A3.out.lt)
  have B2 := Lib.hid (below_trans B1.out hw2 B1.out.size)
  clear A2 A3 B1 hw2
  go_wp2_with (refine wpList_store_row rfl 24 _ _ rfl w2.heap.size R rfl rfl _ _ (heap_alloc_new _ _) (HI.out _ RR.out.1) (by rw [RR.out.1, HZ.out.1]) RR.out.2.1 ?_)
  rw [World.setRow_alloc_new]
  have hstart : LayInv w (w2.alloc (.cells R 24)) T U R w2.heap.size := ⟨B2.out.alloc B2.out.size _, A4.out.alloc _, A5.out.alloc _, At.new _ _ _⟩
  revert hstart
  generalize w2.alloc (.cells R 24) = W
  generalize w2.heap.size = b
  intro hstart
  clear A4 A5 B2
  go_loopw [6] (fun i w' => ∃ k : Nat, k ≤ 16 ∧ i = .int .i64 k ∧ LayInv w w' T U R b) (fun i _ => 16 - (intOf i).toNat)
  case atStart => exact ⟨0, Nat.zero_le _, rfl, hstart⟩
  case round =>
    obtain ⟨k, hk, rfl, hinv⟩ := hrel
    clear hstart
    obtain ⟨hb, h0, h1, h2⟩ := hinv
    have H0 := Lib.hid h0
    have H1 := Lib.hid h1
    have H2 := Lib.hid h2
    by_cases hk16 : k < 16
    · have c0 := HT.out.cell h0 k hk16
      have c2 := RR.out.cell h2 k hk16
      rw [ov_zero] at c2
      obtain ⟨x, hx⟩ : ∃ x, f k = x := ⟨_, rfl⟩
      obtain ⟨p, hp⟩ : ∃ p, ct x = p := ⟨_, rfl⟩
      rw [hx] at c0 c2
      rw [hp] at c2
      have HP := Lib.hid hp
      have k1 : (k : Int) < 16 := by omega
      clear h0 h1 h2 hx hp
      go_wp2_with fail
      go_quiet (first | (go_at_call 18; with_reducible exact quiet_int (refCut_as x p _ HP.out)))
      go_wp2
      go_roundw
      case rel => exact ⟨k + 1, by omega, by go_num, below_drewN hb _, H0.out, H1.out, H2.out⟩
      case measure => simp [intOf]; omega
    · clear h0 h1 h2
      obtain ⟨R1, hR1⟩ : ∃ A, rowL 16 (ovS f g) 16 = A := ⟨_, rfl⟩
      obtain ⟨R2, hR2⟩ : ∃ A, rowL 16 (ovS g f) 16 = A := ⟨_, rfl⟩
      obtain ⟨R3, hR3⟩ : ∃ A, rowL 16 (ovS (ovS f fun _ => 0) fun _ => 0) 16 = A := ⟨_, rfl⟩
      have r1 : IsRow 16 (ovS f g) R1 := by rw [← hR1]; exact isRow _ _
      have r2 : IsRow 16 (ovS g f) R2 := by rw [← hR2]; exact isRow _ _
      have r3 : IsRow 16 (ovS (ovS f fun _ => 0) fun _ => 0) R3 := by rw [← hR3]; exact isRow _ _
      have C1 := Lib.hid (fun w => over_any T U f g HT.out HU.out w)
      have C2 := Lib.hid (fun w => over_any U T g f HU.out HT.out w)
      have C3 := Lib.hid (fun w => over_any R E _ (fun _ => 0) RR.out HE.out w)
      rw [hR1] at C1
      rw [hR2] at C2
      rw [hR3] at C3
      have e1 := rows_eq r1 r2 (fun i _ => ov_comm f g i) Try.underlying24
      have e2 := rows_eq r3 RR.out (fun i _ => ov_twice f i) Try.underlying24
      clear hR1 hR2 hR3
      go_wp2_with fail
      refine mv_start fun hS => ?_
      refine mv_yield (i := 0) (d := 24) (.agg T) rfl rfl (by kernel_rfl) (by kernel_rfl) (by kernel_rfl) hS (y_load (by rfl) rfl rfl H0.out Try.underlying22 (HJ.out _ HT.out.1)) ?_
      simp only [Act.put, List.setIfInBounds_toArray, List.set_cons_zero, List.set_cons_succ]
      refine mv_yield (i := 1) (d := 25) (.agg U) rfl rfl (by kernel_rfl) (by kernel_rfl) (by kernel_rfl) hS (y_load (by rfl) rfl rfl H1.out Try.underlying22 (HJ.out _ HU.out.1)) ?_
      simp only [Act.put, List.setIfInBounds_toArray, List.set_cons_zero, List.set_cons_succ]
      refine mv_yield (i := 3) (d := 27) (.agg U) rfl rfl (by kernel_rfl) (by kernel_rfl) (by kernel_rfl) hS (y_load (by rfl) rfl rfl H1.out Try.underlying22 (HJ.out _ HU.out.1)) ?_
      simp only [Act.put, List.setIfInBounds_toArray, List.set_cons_zero, List.set_cons_succ]
      refine mv_yield (i := 4) (d := 28) (.agg T) rfl rfl (by kernel_rfl) (by kernel_rfl) (by kernel_rfl) hS (y_load (by rfl) rfl rfl H0.out Try.underlying22 (HJ.out _ HT.out.1)) ?_
      simp only [Act.put, List.setIfInBounds_toArray, List.set_cons_zero, List.set_cons_succ]
      refine mv_call (i := 2) (d := 26) (v := .agg R1) #[.agg T, .agg U] rfl rfl (by kernel_rfl) (by rfl) rfl hS enter_over (by kernel_rfl) (C1.out _) ?_
      clear hS
      rintro w' hS
      simp only [Act.put, List.setIfInBounds_toArray, List.set_cons_zero, List.set_cons_succ]
      refine mv_call (i := 5) (d := 29) (v := .agg R2) #[.agg U, .agg T] rfl rfl (by kernel_rfl) (by rfl) rfl hS enter_over (by kernel_rfl) (C2.out _) ?_
      clear hS
      rintro w' hS
      simp only [Act.put, List.setIfInBounds_toArray, List.set_cons_zero, List.set_cons_succ]
      refine mv_yield (i := 6) (d := 30) (.bool true) rfl rfl (by kernel_rfl) (by kernel_rfl) (by kernel_rfl) hS (y_eql (by rfl) rfl rfl rfl no_guard e1) ?_
      simp only [Act.put, List.setIfInBounds_toArray, List.set_cons_zero, List.set_cons_succ]
      refine mv_yield (i := 7) (d := 31) (.bool true) rfl rfl (by kernel_rfl) (by kernel_rfl) (by kernel_rfl) hS (y_run (by rfl) fun _ => by rfl) ?_
      simp only [Act.put, List.setIfInBounds_toArray, List.set_cons_zero, List.set_cons_succ]
      refine mv_yield (i := 8) (d := 32) (.agg R) rfl rfl (by kernel_rfl) (by kernel_rfl) (by kernel_rfl) hS (y_load (by rfl) rfl rfl H2.out Try.underlying24 (HI.out _ RR.out.1)) ?_
      simp only [Act.put, List.setIfInBounds_toArray, List.set_cons_zero, List.set_cons_succ]
      refine mv_yield (i := 9) (d := 33) (.agg E) rfl rfl (by kernel_rfl) (by kernel_rfl) (by kernel_rfl) hS (y_build (by rfl) rfl (BE.out _)) ?_
      simp only [Act.put, List.setIfInBounds_toArray, List.set_cons_zero, List.set_cons_succ]
      refine mv_yield (i := 11) (d := 35) (.agg R) rfl rfl (by kernel_rfl) (by kernel_rfl) (by kernel_rfl) hS (y_load (by rfl) rfl rfl H2.out Try.underlying24 (HI.out _ RR.out.1)) ?_
      simp only [Act.put, List.setIfInBounds_toArray, List.set_cons_zero, List.set_cons_succ]
      refine mv_call (i := 10) (d := 34) (v := .agg R3) #[.agg R, .agg E] rfl rfl (by kernel_rfl) (by rfl) rfl hS enter_over (by kernel_rfl) (C3.out _) ?_
      clear hS
      rintro w' hS
      simp only [Act.put, List.setIfInBounds_toArray, List.set_cons_zero, List.set_cons_succ]
      refine mv_yield (i := 12) (d := 36) (.bool true) rfl rfl (by kernel_rfl) (by kernel_rfl) (by kernel_rfl) hS (y_eql (by rfl) rfl rfl rfl no_guard e2) ?_
      simp only [Act.put, List.setIfInBounds_toArray, List.set_cons_zero, List.set_cons_succ]
      refine mv_yield (i := 13) (d := 37) (.bool true) rfl rfl (by kernel_rfl) (by kernel_rfl) (by kernel_rfl) hS (y_run (by rfl) fun _ => by rfl) ?_
      simp only [Act.put, List.setIfInBounds_toArray, List.set_cons_zero, List.set_cons_succ]
      refine mv_yield (i := 14) (d := 4) (.bool true) rfl rfl (by kernel_rfl) (by kernel_rfl) (by kernel_rfl) hS (y_run (by rfl) fun _ => by rfl) ?_
      simp only [Act.put, List.setIfInBounds_toArray, List.set_cons_zero, List.set_cons_succ]
      refine mv_done (by kernel_rfl) ?_
      have HB := Lib.hid (below_trans hb hS hb.size)
      clear e1 e2 r1 r2 r3 hS
      go_wp2
      go_ret
      exact ⟨rfl, HB.out⟩
end Go.Proofs.Ytabenllglldkkaa.Md
