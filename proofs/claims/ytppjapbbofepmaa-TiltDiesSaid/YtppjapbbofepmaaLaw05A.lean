/- The statements' walks of layer 5, first part: TiltSounds, TiltDies. -/
import Derived.Test.YtppjapbbofepmaaTlE
namespace Go.Proofs.Ytppjapbbofepmaa.Tl
open Go.RowKit Go.Proofs.Ytppjapbbofepmaa.Row

theorem enter_sound (args : Array Value) (w : World) : (callFunc 11 args).run Try.prog w = .ok (.enter 11 args) w := run_enter Try.func11 (by kernel_rfl) rfl args w

set_option maxRecDepth 100000 in
set_option maxHeartbeats 1000000 in
theorem tiltSounds_walk (T : Array Value) (f : Nat → Int) (hT : IsRow 16 f T) (w : World) :
    Calls Try.prog 7 #[.agg T] w fun e w' => e = .returned (.bool true) ∧ Below w.heap.size w w' := by
  obtain ⟨Z, hZ, hZ0, hz, hi⟩ := zero_block
  obtain ⟨Y, hY, hY0, hy, hj⟩ := zero_16
  have HT := Lib.hid hT
  have HZ := Lib.hid hZ
  have HI := Lib.hid hi
  have HJ := Lib.hid hj
  obtain ⟨R, hR⟩ : ∃ A, rowL 16 (fun k => ct16 (f k)) 16 = A := ⟨_, rfl⟩
  have RR := Lib.hid (show IsRow 16 (fun k => ct16 (f k)) R by rw [← hR]; exact isRow _ _)
  have CR := Lib.hid (fun w => sound_any T f w hT)
  rw [hR] at CR
  have A0 := Lib.hid (At.new w T 22)
  have B0 := Lib.hid ((Below.refl w.heap.size w).alloc (Nat.le_refl _) (.cells T 22))
  clear hT hZ hi hj hR hZ0 hY0 hY
  go_enter Try.func7, Try.ntmps7
  go_wp2_with fail
  refine (awake_yes _).mono ?_
  rintro e w1 ⟨rfl, hw1⟩
  have A2 := Lib.hid (A0.out.below hw1 A0.out.lt)
  have B1 := Lib.hid (below_trans B0.out hw1 B0.out.size)
  clear A0 B0 hw1
  go_wp2_with (refine wpList_load_wanted (by rfl) 22 _ rfl w.heap.size rfl _ _ _ _ A2.out Try.underlying22 (HJ.out _ HT.out.1) ?_)
  refine (CR.out _).mono ?_
  rintro e w2 ⟨rfl, hw2⟩
  have A4 := Lib.hid (A2.out.below hw2 A2.out.lt)
  have B2 := Lib.hid (below_trans B1.out hw2 B1.out.size)
  clear A2 B1 hw2
  go_wp2_with (refine wpList_store_row rfl 24 _ _ rfl w2.heap.size R rfl rfl _ _ (heap_alloc_new _ _) (HI.out _ RR.out.1) (by rw [RR.out.1, HZ.out.1]) RR.out.2.1 ?_)
  rw [World.setRow_alloc_new]
  have hstart : Below w.heap.size w (w2.alloc (.cells R 24)) ∧ At (w2.alloc (.cells R 24)) w.heap.size T 22 ∧ At (w2.alloc (.cells R 24)) w2.heap.size R 24 := ⟨B2.out.alloc B2.out.size _, A4.out.alloc _, At.new _ _ _⟩
  revert hstart
  generalize w2.alloc (.cells R 24) = W
  generalize w2.heap.size = b
  intro hstart
  clear A4 B2
  go_loopw [4] (fun i w' => ∃ k : Nat, k ≤ 16 ∧ i = .int .i64 k ∧ Below w.heap.size w w' ∧ At w' w.heap.size T 22 ∧ At w' b R 24) (fun i _ => 16 - (intOf i).toNat)
  case atStart => exact ⟨0, Nat.zero_le _, rfl, hstart⟩
  case round =>
    obtain ⟨k, hk, rfl, hb, h0, h1⟩ := hrel
    clear hstart
    have H0 := Lib.hid h0
    have H1 := Lib.hid h1
    by_cases hk16 : k < 16
    · have c0 := HT.out.cell h0 k hk16
      have c1 := RR.out.cell h1 k hk16
      obtain ⟨x, hx⟩ : ∃ x, f k = x := ⟨_, rfl⟩
      rw [hx] at c0 c1
      have k1 : (k : Int) < 16 := by omega
      clear h0 h1 hx
      by_cases g1 : x < -32768
      · rw [show ct16 x = -32768 by unfold ct16; omega] at c1
        have d1 : decide (-32768 ≤ x) = false := decide_eq_false (by omega)
        go_wp2_with fail
        go_quiet (fail)
        go_wp2
        go_roundw
        case rel => exact ⟨k + 1, by omega, by go_num, below_drewN hb _, H0.out, H1.out⟩
        case measure => simp [intOf]; omega
      · by_cases g2 : 32767 < x
        · rw [show ct16 x = 32767 by unfold ct16; omega] at c1
          have d1 : decide (-32768 ≤ x) = true := decide_eq_true (by omega)
          have d2 : decide (x ≤ 32767) = false := decide_eq_false (by omega)
          go_wp2_with fail
          go_quiet (fail)
          go_wp2
          go_roundw
          case rel => exact ⟨k + 1, by omega, by go_num, below_drewN hb _, H0.out, H1.out⟩
          case measure => simp [intOf]; omega
        · rw [show ct16 x = x by unfold ct16; omega] at c1
          go_wp2_with fail
          go_quiet (fail)
          go_wp2
          go_roundw
          case rel => exact ⟨k + 1, by omega, by go_num, below_drewN hb _, H0.out, H1.out⟩
          case measure => simp [intOf]; omega
    · clear h0 h1
      obtain ⟨R1, hR1⟩ : ∃ A, rowL 16 (fun k => ct16 (ct16 (f k))) 16 = A := ⟨_, rfl⟩
      have r1 : IsRow 16 (fun k => ct16 (ct16 (f k))) R1 := by rw [← hR1]; exact isRow _ _
      have C1 := Lib.hid (fun w => sound_any R (fun k => ct16 (f k)) w RR.out)
      rw [hR1] at C1
      have e1 := rows_eq r1 RR.out (fun i _ => ct16_ct16 (f i)) Try.underlying24
      clear hR1
      go_wp2_with fail
      refine mv_start fun hS => ?_
      refine mv_yield (i := 0) (d := 44) (.agg R) rfl rfl (by kernel_rfl) (by kernel_rfl) (by kernel_rfl) hS (y_load (by rfl) rfl rfl H1.out Try.underlying24 (HI.out _ RR.out.1)) ?_
      simp only [Act.put, List.setIfInBounds_toArray, List.set_cons_zero, List.set_cons_succ]
      refine mv_yield (i := 2) (d := 46) (.agg R) rfl rfl (by kernel_rfl) (by kernel_rfl) (by kernel_rfl) hS (y_load (by rfl) rfl rfl H1.out Try.underlying24 (HI.out _ RR.out.1)) ?_
      simp only [Act.put, List.setIfInBounds_toArray, List.set_cons_zero, List.set_cons_succ]
      refine mv_call (i := 1) (d := 45) (v := .agg R1) #[.agg R] rfl rfl (by kernel_rfl) (by rfl) rfl hS enter_sound (by kernel_rfl) (C1.out _) ?_
      clear hS
      rintro w' hS
      simp only [Act.put, List.setIfInBounds_toArray, List.set_cons_zero, List.set_cons_succ]
      refine mv_yield (i := 3) (d := 47) (.bool true) rfl rfl (by kernel_rfl) (by kernel_rfl) (by kernel_rfl) hS (y_eql (by rfl) rfl rfl rfl no_guard e1) ?_
      simp only [Act.put, List.setIfInBounds_toArray, List.set_cons_zero, List.set_cons_succ]
      refine mv_yield (i := 4) (d := 2) (.bool true) rfl rfl (by kernel_rfl) (by kernel_rfl) (by kernel_rfl) hS (y_run (by rfl) fun _ => by rfl) ?_
      simp only [Act.put, List.setIfInBounds_toArray, List.set_cons_zero, List.set_cons_succ]
      refine mv_done (by kernel_rfl) ?_
      have HB := Lib.hid (below_trans hb hS hb.size)
      clear e1 r1 hS
      go_wp2
      go_ret
      exact ⟨rfl, HB.out⟩

theorem die_la {n : Int} (h : -2097152 ≤ n ∧ n ≤ 2097151) (k : Nat) : laS n (fun _ => 0) k = dieS n (k + 1) := out_zero h (k + 1)

set_option maxRecDepth 100000 in
set_option maxHeartbeats 1000000 in
theorem tiltDies_walk (last : Int) (w : World) :
    Calls Try.prog 6 #[.int .i64 last] w fun e w' => e = .returned (.bool true) ∧ Below w.heap.size w w' := by
  obtain ⟨Z, hZ, hZ0, hz, hi⟩ := zero_block
  obtain ⟨E, hE, bE⟩ := built_none
  have HZ := Lib.hid hZ
  have HI := Lib.hid hi
  have HE := Lib.hid hE
  have BE := Lib.hid bE
  obtain ⟨n0, hn0⟩ : ∃ n, ct22 last = n := ⟨_, rfl⟩
  have HN := Lib.hid hn0
  have HD := Lib.hid (show -2097152 ≤ n0 ∧ n0 ≤ 2097151 by rw [← hn0]; exact ct22_bd _)
  clear hZ hi hZ0 hE bE hn0
  go_enter Try.func6, Try.ntmps6
  go_wp2_with fail
  refine (awake_yes _).mono ?_
  rintro e w1 ⟨rfl, hw1⟩
  go_wp2_with (go_at_call 14; (with_reducible refine (refCut22 last n0 _ HN.out).mono ?_); rintro e w' ⟨rfl, rfl⟩)
  go_loopw [3, 4] (fun n i w' => ∃ k : Nat, k ≤ 20 ∧ i = .int .i64 k ∧ n = .int .i64 (dieS n0 (16 * k)) ∧ Below w.heap.size w w') (fun _ i _ => 20 - (intOf i).toNat)
  case atStart => exact ⟨0, Nat.zero_le _, rfl, rfl, hw1⟩
  case round =>
    obtain ⟨k, hk, rfl, rfl, hb⟩ := hrel
    clear hw1
    by_cases hk20 : k < 20
    · obtain ⟨n, hn⟩ : ∃ n, dieS n0 (16 * k) = n := ⟨_, rfl⟩
      have hbd : -2097152 ≤ n ∧ n ≤ 2097151 := by rw [← hn]; exact die_bd HD.out _
      have HBD := Lib.hid hbd
      have HNN := Lib.hid hn
      obtain ⟨R, hR⟩ : ∃ R, rowL 16 (laS n fun _ => 0) 16 = R := ⟨_, rfl⟩
      obtain ⟨m, hm⟩ : ∃ m, laS n (fun _ => 0) 15 = m := ⟨_, rfl⟩
      have HM := Lib.hid (show dieS n 16 = m by rw [← hm, die_la hbd])
      have RR := Lib.hid (show IsRow 16 (fun k => dieS n (k + 1)) R by rw [← hR]; exact (isRow _ _).ext fun i _ => die_la hbd i)
      have CL := Lib.hid (fun w => lay_any n E (fun _ => 0) w HE.out)
      rw [hR, hm] at CL
      rw [hn]
      have k1 : (k : Int) < 20 := by omega
      clear hn hR hm hbd
      go_wp2_with (refine wpList_build_wanted (by rfl) 24 #[] rfl E (BE.out _) ?_)
      refine (CL.out _).mono ?_
      rintro e w2 ⟨rfl, hw2⟩
      have B2 := Lib.hid (below_trans hb hw2 hb.size)
      clear hb hw2
      go_wp2_with (refine wpList_store_row rfl 24 _ _ rfl w2.heap.size R rfl rfl _ _ (heap_alloc_new _ _) (HI.out _ RR.out.1) (by rw [RR.out.1, HZ.out.1]) RR.out.2.1 ?_)
      rw [World.setRow_alloc_new]
      have hstart : Below w.heap.size w (w2.alloc (.cells R 24)) ∧ At (w2.alloc (.cells R 24)) w2.heap.size R 24 := ⟨B2.out.alloc B2.out.size _, At.new _ _ _⟩
      revert hstart
      generalize w2.alloc (.cells R 24) = W
      generalize w2.heap.size = b
      intro hstart
      clear B2
      go_loopw [7, 8] (fun a i w' => ∃ j : Nat, j ≤ 16 ∧ i = .int .i64 j ∧ a = .int .i64 (dieS n j) ∧ Below w.heap.size w w' ∧ At w' b R 24) (fun _ i _ => 16 - (intOf i).toNat)
      case atStart => exact ⟨0, Nat.zero_le _, rfl, rfl, hstart⟩
      case round =>
        obtain ⟨j, hj, rfl, rfl, hb, h1⟩ := hrel
        clear hstart
        have H1 := Lib.hid h1
        by_cases hj16 : j < 16
        · have c1 := RR.out.cell h1 j hj16
          obtain ⟨a, ha⟩ : ∃ a, dieS n j = a := ⟨_, rfl⟩
          obtain ⟨y, hy⟩ : ∃ y, dieS n (j + 1) = y := ⟨_, rfl⟩
          have hya : prt a = y := by rw [← ha, ← hy]; rfl
          obtain ⟨a1, a2⟩ := die_bd HBD.out j
          obtain ⟨y1, y2⟩ := die_bd HBD.out (j + 1)
          obtain ⟨g1, g2, g3⟩ := prt_keep a
          rw [hya] at g1 g2 g3
          rw [ha] at a1 a2
          rw [hy] at y1 y2 c1
          rw [ha]
          have HY := Lib.hid hy
          have j1 : (j : Int) < 16 := by omega
          have hcase : (0 < a ∧ 0 < y ∧ y ≤ a) ∨ (0 < a ∧ y = 0) ∨ (a < 0 ∧ a ≤ y ∧ y < 0) ∨ (a < 0 ∧ y = 0) ∨ (a = 0 ∧ y = 0) := by omega
          have wa : IntKind.i64.wrap (-a) = -a := IntWalk.i64_in _ (by omega)
          have wy : IntKind.i64.wrap (-y) = -y := IntWalk.i64_in _ (by omega)
          clear ha hy hya g1 g2 g3 h1
          rcases hcase with ⟨q1, q2, q3⟩ | ⟨q1, rfl⟩ | ⟨q1, q2, q3⟩ | ⟨q1, rfl⟩ | ⟨rfl, rfl⟩
          · have ma : (if a < -a then -a else a) = a := if_neg (by omega)
            have my : (if y < -y then -y else y) = y := if_neg (by omega)
            have d1 : decide (a < y) = false := decide_eq_false (by omega)
            have d2 : decide (0 < y) = true := decide_eq_true (by omega)
            have d3 : decide (a < 0) = false := decide_eq_false (by omega)
            have d4 : decide (y < 0) = false := decide_eq_false (by omega)
            go_wp2_with fail
            go_quiet (fail)
            go_wp2
            go_roundw
            case rel => exact ⟨j + 1, by omega, by go_num, by rw [HY.out], below_drewN hb _, H1.out⟩
            case measure => simp [intOf]; omega
          · have ma : (if a < -a then -a else a) = a := if_neg (by omega)
            have d1 : decide (a < 0) = false := decide_eq_false (by omega)
            go_wp2_with fail
            go_quiet (fail)
            go_wp2
            go_roundw
            case rel => exact ⟨j + 1, by omega, by go_num, by rw [HY.out], below_drewN hb _, H1.out⟩
            case measure => simp [intOf]; omega
          · have ma : (if a < -a then -a else a) = -a := if_pos (by omega)
            have my : (if y < -y then -y else y) = -y := if_pos (by omega)
            have d1 : decide (-a < -y) = false := decide_eq_false (by omega)
            have d2 : decide (0 < y) = false := decide_eq_false (by omega)
            have d3 : decide (0 < a) = false := decide_eq_false (by omega)
            have d4 : decide (y < 0) = true := decide_eq_true (by omega)
            go_wp2_with fail
            go_quiet (fail)
            go_wp2
            go_roundw
            case rel => exact ⟨j + 1, by omega, by go_num, by rw [HY.out], below_drewN hb _, H1.out⟩
            case measure => simp [intOf]; omega
          · have ma : (if a < -a then -a else a) = -a := if_pos (by omega)
            have d1 : decide (-a < 0) = false := decide_eq_false (by omega)
            have d2 : decide (0 < a) = false := decide_eq_false (by omega)
            go_wp2_with fail
            go_quiet (fail)
            go_wp2
            go_roundw
            case rel => exact ⟨j + 1, by omega, by go_num, by rw [HY.out], below_drewN hb _, H1.out⟩
            case measure => simp [intOf]; omega
          · go_wp2_with fail
            go_quiet (fail)
            go_wp2
            go_roundw
            case rel => exact ⟨j + 1, by omega, by go_num, by rw [HY.out], below_drewN hb _, H1.out⟩
            case measure => simp [intOf]; omega
        · obtain rfl : j = 16 := by omega
          have c1 := RR.out.cell h1 15 (by omega)
          have e1 : dieS n (15 + 1) = m := HM.out
          rw [e1] at c1
          have HKK := Lib.hid (show dieS n0 (16 * (k + 1)) = m by rw [← HM.out, ← HNN.out, die_add]; congr 1)
          clear h1 e1
          go_wp2
          go_roundw
          case rel => exact ⟨k + 1, by omega, by go_num, by rw [HKK.out], hb⟩
          case measure => simp [intOf]; omega
    · obtain rfl : k = 20 := by omega
      have hz0 : dieS n0 (16 * 20) = 0 := dies HD.out
      rw [hz0]
      go_wp2
      go_ret
      exact ⟨rfl, hb⟩
end Go.Proofs.Ytppjapbbofepmaa.Tl
