/- The statements' walks of layer 4, third part: MdctSizes. -/
import Derived.Test.YtabenllglldkkaaMdMw
import Derived.Test.YtabenllglldkkaaLaw04B
namespace Go.Proofs.Ytabenllglldkkaa.Md
open Go.RowKit Go.Proofs.Ytabenllglldkkaa.Ang

/-- Two rows that came in. -/
def In2 (w w' : World) (T0 T1 : Array Value) : Prop := Below w.heap.size w w' ∧ At w' w.heap.size T0 22 ∧ At w' (w.heap.size + 1) T1 22
theorem In2.start (w : World) (T0 T1 : Array Value) : In2 w ((w.alloc (.cells T0 22)).alloc (.cells T1 22)) T0 T1 := by
  refine ⟨((Below.refl _ _).alloc (Nat.le_refl _) _).alloc (by simp) _, (At.new _ _ _).alloc _, ?_⟩
  have := At.new (w.alloc (.cells T0 22)) T1 22
  simpa using this
theorem In2.below {w w1 w2 : World} {T0 T1 : Array Value} (h : In2 w w1 T0 T1) (hb : Below w1.heap.size w1 w2) : In2 w w2 T0 T1 :=
  ⟨below_trans h.1 hb h.1.size, h.2.1.below hb h.2.1.lt, h.2.2.below hb h.2.2.lt⟩

theorem back_zero (i : Nat) (hi : i < 32) : bS (fun _ => 0) i = 0 := by
  have h : ∀ i : Fin 32, bS (fun _ => 0) i.val = 0 := by decide +kernel
  exact h ⟨i, hi⟩

/-- What stands when MdctSizes is told: both frames, the waves, the way back of nothing. -/
def Sz (w w' : World) (X0 X1 WW FF LL : Array Value) (c0 c1 c2 c3 c4 : Nat) : Prop :=
  Below w.heap.size w w' ∧ At w' c0 X0 24 ∧ At w' c1 X1 24 ∧ At w' c2 WW 24 ∧ At w' c3 FF 24 ∧ At w' c4 LL 24
theorem sz_end {w w5 : World} {X0 X1 WW FF LL Z : Array Value} {c0 c1 c2 : Nat} (hb : Below w.heap.size w w5) (h0 : At w5 c0 X0 24) (h1 : At w5 c1 X1 24) (h2 : At w5 c2 WW 24) :
    Sz w ((((w5.alloc (.cells Z 24)).alloc (.cells Z 24)).setRow w5.heap.size FF).setRow (w5.heap.size + 1) LL) X0 X1 WW FF LL c0 c1 c2 w5.heap.size (w5.heap.size + 1) := by
  have hk : ∀ {b : Nat} {A : Array Value} {t : TypeId}, At w5 b A t → At ((((w5.alloc (.cells Z 24)).alloc (.cells Z 24)).setRow w5.heap.size FF).setRow (w5.heap.size + 1) LL) b A t := fun hA => by
    have := hA.lt
    exact (((hA.alloc _).alloc _).setRow_other (by omega)).setRow_other (by omega)
  have a1 : At ((w5.alloc (.cells Z 24)).alloc (.cells Z 24)) w5.heap.size Z 24 := heap_alloc2_old _ _ _
  have a2 : At ((w5.alloc (.cells Z 24)).alloc (.cells Z 24)) (w5.heap.size + 1) Z 24 := heap_alloc2_new _ _ _
  have hs := hb.size
  exact ⟨below_setRow' (below_setRow' ((hb.alloc hs _).alloc (by simp; omega) _) hs _) (by omega) _, hk h0, hk h1, hk h2, a1.setRow.setRow_other (by omega), (a2.setRow_other (by omega)).setRow⟩

set_option maxRecDepth 100000 in
set_option maxHeartbeats 2000000 in
theorem mdctSizes_walk (T0 T1 : Array Value) (f0 f1 : Nat → Int) (h0 : IsRow 16 f0 T0) (h1 : IsRow 16 f1 T1) (w : World) :
    Calls Try.prog 4 #[.agg T0, .agg T1] w fun e w' => e = .returned (.bool true) ∧ Below w.heap.size w w' := by
  obtain ⟨Z, hZ, hZ0, hz, hi⟩ := zero_block
  obtain ⟨Y, hY, hY0, hy, hj⟩ := zero_16
  obtain ⟨E, hE, bE⟩ := built_none
  obtain ⟨X0, hX0⟩ : ∃ A, rowL 16 (smS f0) 16 = A := ⟨_, rfl⟩
  have r0 : IsRow 16 (smS f0) X0 := by rw [← hX0]; exact isRow _ _
  have C0 := Lib.hid (fun w => small_any T0 f0 h0 w)
  rw [hX0] at C0
  have R0 := Lib.hid r0
  have S0 := Lib.hid r0.1
  have O0 := Lib.hid r0.2.1
  have HT0 := Lib.hid h0
  obtain ⟨X1, hX1⟩ : ∃ A, rowL 16 (smS f1) 16 = A := ⟨_, rfl⟩
  have r1 : IsRow 16 (smS f1) X1 := by rw [← hX1]; exact isRow _ _
  have C1 := Lib.hid (fun w => small_any T1 f1 h1 w)
  rw [hX1] at C1
  have R1 := Lib.hid r1
  have S1 := Lib.hid r1.1
  have O1 := Lib.hid r1.2.1
  have HT1 := Lib.hid h1
  obtain ⟨WW, hWW⟩ : ∃ A, rowL 16 (wS (smS f0) (smS f1)) 16 = A := ⟨_, rfl⟩
  obtain ⟨FF, hFF⟩ : ∃ A, rowL 16 (bS fun _ => 0) 16 = A := ⟨_, rfl⟩
  obtain ⟨LL, hLL⟩ : ∃ A, rowL 16 (fun i => bS (fun _ => 0) (16 + i)) 16 = A := ⟨_, rfl⟩
  have rW : IsRow 16 (wS (smS f0) (smS f1)) WW := by rw [← hWW]; exact isRow _ _
  have rF : IsRow 16 (bS fun _ => 0) FF := by rw [← hFF]; exact isRow _ _
  have rL : IsRow 16 (fun i => bS (fun _ => 0) (16 + i)) LL := by rw [← hLL]; exact isRow _ _
  have CW := Lib.hid (fun w => waves_yes X0 X1 (smS f0) (smS f1) r0 r1 ((sm_le f0).mono (by decide)) ((sm_le f1).mono (by decide)) w)
  have CB := Lib.hid (fun w => back_yes E (fun _ => 0) hE zero_le' w)
  rw [hWW] at CW
  rw [hFF, hLL] at CB
  have RW := Lib.hid rW
  have RF := Lib.hid rF
  have RL := Lib.hid rL
  have HE := Lib.hid hE
  have BE := Lib.hid bE
  have HZ := Lib.hid hZ
  have HI := Lib.hid hi
  have HJ := Lib.hid hj
  have HS := Lib.hid (In2.start w T0 T1)
  clear hZ hi hj hZ0 hY0 hY hX0 hX1 r0 r1 h0 h1 hWW hFF hLL rW rF rL hE bE
  go_enter Try.func4, Try.ntmps4
  go_wp2_with fail
  refine (awake_yes _).mono ?_
  rintro e w1 ⟨rfl, hw1⟩
  have H1 := Lib.hid (HS.out.below hw1)
  clear HS hw1
  go_wp2_with fail
  refine mv_start fun hS => ?_
  refine mv_yield (i := 0) (d := 12) (.agg T0) rfl rfl (by kernel_rfl) (by kernel_rfl) (by kernel_rfl) hS (y_load (by rfl) rfl rfl H1.out.2.1 Try.underlying22 (HJ.out _ HT0.out.1)) ?_
  simp only [Act.put, List.setIfInBounds_toArray, List.set_cons_zero, List.set_cons_succ]
  refine mv_yield (i := 2) (d := 14) (.agg T1) rfl rfl (by kernel_rfl) (by kernel_rfl) (by kernel_rfl) hS (y_load (by rfl) rfl rfl H1.out.2.2 Try.underlying22 (HJ.out _ HT1.out.1)) ?_
  simp only [Act.put, List.setIfInBounds_toArray, List.set_cons_zero, List.set_cons_succ]
  refine par0 (fuel := 2) [1, 3, 4, 5] [3, 1, 4, 5] (fun i => decide (4 ≤ i)) (fun i => if i = 1 then .agg X0 else .agg X1) (fun _ => Z) (fun _ => 24) #[true, true, true, true, true, true, false, false] _ rfl (by decide) (by decide) (by decide) rfl (by kernel_rfl) (by kernel_rfl) (by kernel_rfl) (by kernel_rfl) (by kernel_rfl) (by kernel_rfl) (by kernel_rfl) hS ?_ ?_
  · intro i hi
    simp only [List.mem_cons, List.not_mem_nil, or_false] at hi
    rcases hi with rfl | rfl | rfl | rfl
    · exact ⟨_, rfl, fun w _ => st_call (isA := fun i => decide (4 ≤ i)) (V := fun i => if i = 1 then .agg X0 else .agg X1) (Zc := fun _ => Z) (ty := fun _ => 24) (i := 1) #[.agg T0] rfl rfl rfl enter_small (by kernel_rfl) (C0.out _)⟩
    · exact ⟨_, rfl, fun w _ => st_call (isA := fun i => decide (4 ≤ i)) (V := fun i => if i = 1 then .agg X0 else .agg X1) (Zc := fun _ => Z) (ty := fun _ => 24) (i := 3) #[.agg T1] rfl rfl rfl enter_small (by kernel_rfl) (C1.out _)⟩
    · exact ⟨_, rfl, fun w _ => st_alloc (isA := fun i => decide (4 ≤ i)) (V := fun i => if i = 1 then .agg X0 else .agg X1) (Zc := fun _ => Z) (ty := fun _ => 24) (i := 4) rfl rfl rfl rfl hz⟩
    · exact ⟨_, rfl, fun w _ => st_alloc (isA := fun i => decide (4 ≤ i)) (V := fun i => if i = 1 then .agg X0 else .agg X1) (Zc := fun _ => Z) (ty := fun _ => 24) (i := 5) rfl rfl rfl rfl hz⟩
  clear hS
  intro val w' hS hY hV
  have v1 : val 1 = .agg X0 := (hY 1 (by simp)).1 rfl
  have v3 : val 3 = .agg X1 := (hY 3 (by simp)).1 rfl
  obtain ⟨b4, e4, a4, g4⟩ : ∃ b, val 4 = .pointer (some ⟨b, 0, none⟩) ∧ At w' b Z 24 ∧ w1.heap.size ≤ b := (hY 4 (by simp)).2 rfl
  obtain ⟨b5, e5, a5, g5⟩ : ∃ b, val 5 = .pointer (some ⟨b, 0, none⟩) ∧ At w' b Z 24 ∧ w1.heap.size ≤ b := (hY 5 (by simp)).2 rfl
  have n4_5 : b4 ≠ b5 := fun e => hV 4 (by simp) 5 (by simp) (by decide) rfl rfl (by rw [e4, e5, e])
  have n5_4 : b5 ≠ b4 := fun e => hV 5 (by simp) 4 (by simp) (by decide) rfl rfl (by rw [e5, e4, e])
  show wpAnyH _ _ _ _ _ _ _ (Act.put (Act.put (Act.put (Act.put _ (some 13) (val 1)) (some 15) (val 3)) (some 5) (val 4)) (some 6) (val 5)) _
  rw [v1, v3, e4, e5]
  simp only [Act.put, List.setIfInBounds_toArray, List.set_cons_zero, List.set_cons_succ]
  clear hY hV v1 v3 e4 e5
  refine mv_store (i := 6) b4 X0 _ rfl rfl (by kernel_rfl) (by rfl) rfl rfl rfl a4 (by rw [HZ.out.1, S0.out]) O0.out (HI.out _ S0.out) g4 hS (fun hS => ?_)
  refine mv_store (i := 7) b5 X1 _ rfl rfl (by kernel_rfl) (by rfl) rfl rfl rfl (a5.setRow_other n5_4) (by rw [HZ.out.1, S1.out]) O1.out (HI.out _ S1.out) g5 hS (fun hS => ?_)
  refine mv_done (by kernel_rfl) ?_
  have P4 := Lib.hid ((a4.setRow (C := X0)).setRow_other (C := X1) n4_5)
  have P5 := Lib.hid ((a5.setRow_other (C := X0) n5_4).setRow (C := X1))
  have B3 := Lib.hid (below_trans H1.out.1 hS H1.out.1.size)
  revert P4 P5 B3
  generalize ((w'.setRow b4 X0).setRow b5 X1) = w3
  intro P4 P5 B3
  clear hS H1
  go_wp2_with (first
    | refine wpList_load_wanted (by rfl) 24 (.tmp 5) rfl b4 rfl _ _ _ _ P4.out Try.underlying24 (HI.out _ S0.out) ?_
    | refine wpList_load_wanted (by rfl) 24 (.tmp 6) rfl b5 rfl _ _ _ _ P5.out Try.underlying24 (HI.out _ S1.out) ?_)
  refine (CW.out _).mono ?_
  rintro e w4 ⟨rfl, hw4⟩
  have A0 := Lib.hid ((P4.out.below hw4 P4.out.lt).alloc (.cells WW 24))
  have A1 := Lib.hid ((P5.out.below hw4 P5.out.lt).alloc (.cells WW 24))
  have A2 := Lib.hid (At.new w4 WW 24)
  have b4' := below_trans B3.out hw4 B3.out.size
  have B4 := Lib.hid (b4'.alloc b4'.size (.cells WW 24))
  clear P4 P5 B3 hw4 b4'
  go_wp2_with (first
    | (refine wpList_store_row rfl 24 _ _ rfl w4.heap.size WW rfl rfl _ _ (heap_alloc_new _ _) (HI.out _ RW.out.1) (by rw [RW.out.1, HZ.out.1]) RW.out.2.1 ?_; rw [World.setRow_alloc_new])
    | refine wpList_build_wanted (by rfl) 24 #[] rfl E (BE.out _) ?_)
  refine (CB.out _).mono ?_
  rintro e w5 ⟨rfl, hw5⟩
  have SZ := Lib.hid (sz_end (Z := Z) (FF := FF) (LL := LL) (below_trans B4.out hw5 B4.out.size) (A0.out.below hw5 A0.out.lt) (A1.out.below hw5 A1.out.lt) (A2.out.below hw5 A2.out.lt))
  clear A0 A1 A2 B4 hw5
  go_wp2_with (first
    | refine wpList_store_row rfl 24 _ _ rfl w5.heap.size FF rfl rfl 24 Z (heap_alloc2_old w5 (.cells Z 24) (.cells Z 24)) (HI.out _ RF.out.1) (by rw [RF.out.1, HZ.out.1]) RF.out.2.1 ?_
    | refine wpList_store_row rfl 24 _ _ rfl (w5.heap.size + 1) LL rfl rfl 24 Z ((Go.setRow_other _ _ _ _ (by omega)).trans (heap_alloc2_new w5 (.cells Z 24) (.cells Z 24))) (HI.out _ RL.out.1) (by rw [RL.out.1, HZ.out.1]) RL.out.2.1 ?_)
  revert SZ
  generalize (((w5.alloc (.cells Z 24)).alloc (.cells Z 24)).setRow w5.heap.size FF).setRow (w5.heap.size + 1) LL = w6
  generalize w5.heap.size + 1 = c9
  generalize w5.heap.size = c8
  generalize w4.heap.size = c7
  intro SZ
  simp only [Act.put]
  obtain ⟨B6, A0', A1', A2', A3', A4'⟩ := SZ.out
  have A0 := Lib.hid A0'
  have A1 := Lib.hid A1'
  have A2 := Lib.hid A2'
  have A3 := Lib.hid A3'
  have A4 := Lib.hid A4'
  have HX := Lib.hid (fun w => held_yes X0 (smS f0) R0.out ((sm_le f0).mono (by decide)) w)
  have HWW := Lib.hid (fun w => held_yes WW (wS (smS f0) (smS f1)) RW.out (fun k _ => Int.le_trans (w_small (sm_le f0) (sm_le f1) k) (by decide)) w)
  have e1 := rows_eq RF.out HE.out (fun i hi => back_zero i (by omega)) Try.underlying24
  have e2 := rows_eq RL.out HE.out (fun i hi => back_zero (16 + i) (by omega)) Try.underlying24
  obtain ⟨K1, k1, k1'⟩ := slice_rows 1 (by omega) (by omega) (fun _ => WW) (fun _ => wS (smS f0) (smS f1)) (fun _ => RW.out.1) (fun _ _ => RW.out)
  obtain ⟨K2, k2, k2'⟩ := slice_rows 2 (by omega) (by omega) (fun i => if i = 0 then X0 else X1) (fun i => if i = 0 then smS f0 else smS f1) (fun i => by split; exact S0.out; exact S1.out)
    (fun i hi => by by_cases e : i = 0; (rw [if_pos e, if_pos e]; exact R0.out); (rw [if_neg e, if_neg e]; exact R1.out))
  obtain ⟨m1, hm1⟩ : ∃ m, mx (fun _ => wS (smS f0) (smS f1)) 1 = m := ⟨_, rfl⟩
  obtain ⟨m2, hm2⟩ : ∃ m, mx (fun i => if i = 0 then smS f0 else smS f1) 2 = m := ⟨_, rfl⟩
  have M1 := Lib.hid (fun w b h => most_any 1 b (fun _ => wS (smS f0) (smS f1)) K1 k1 (by omega) (fun _ _ k _ => Int.le_trans (w_small (sm_le f0) (sm_le f1) k) (by decide)) w h)
  have M2 := Lib.hid (fun w b h => most_any 2 b (fun i => if i = 0 then smS f0 else smS f1) K2 k2 (by omega) (fun i _ => by split; exact (sm_le f0).mono (by decide); exact (sm_le f1).mono (by decide)) w h)
  rw [hm1] at M1
  rw [hm2] at M2
  obtain ⟨g0, g1⟩ := mx_ge (fun i => if i = 0 then smS f0 else smS f1) 2
  have g2 : mx (fun i => if i = 0 then smS f0 else smS f1) 2 ≤ 65536 := mx_le _ _ _ (by omega) fun i _ => by split; exact sm_le f0; exact sm_le f1
  have g3 : mx (fun _ => wS (smS f0) (smS f1)) 1 ≤ 8 * mx (fun i => if i = 0 then smS f0 else smS f1) 2 + 8 := mx_le _ _ _ (by omega) fun _ _ k _ => w_small (g1 0 (by omega)) (g1 1 (by omega)) k
  rw [hm1, hm2] at g3
  rw [hm2] at g0 g2
  have o1 : IntKind.i64.wrap (8 * m2) = 8 * m2 := IntWalk.i64_in _ (by omega)
  have o2 : IntKind.i64.wrap (8 * m2 + 8) = 8 * m2 + 8 := IntWalk.i64_in _ (by omega)
  have KK1 := Lib.hid k1'
  have KK2 := Lib.hid k2'
  clear g1 hm1 hm2 k1 k2 k1' k2' B6 A0' A1' A2' A3' A4'
  refine mv_start fun hS => ?_
  refine mv_yield (i := 0) (d := 24) (.agg X0) rfl rfl (by kernel_rfl) (by kernel_rfl) (by kernel_rfl) hS (y_load (by rfl) rfl rfl A0.out Try.underlying24 (HI.out _ S0.out)) ?_
  simp only [Act.put, List.setIfInBounds_toArray, List.set_cons_zero, List.set_cons_succ]
  refine mv_call (i := 1) (d := 25) (v := .bool true) #[.agg X0] rfl rfl (by kernel_rfl) (by rfl) rfl hS enter_held (by kernel_rfl) (HX.out _) ?_
  clear hS
  rintro w' hS
  simp only [Act.put, List.setIfInBounds_toArray, List.set_cons_zero, List.set_cons_succ]
  refine mv_yield (i := 2) (d := 26) (.bool true) rfl rfl (by kernel_rfl) (by kernel_rfl) (by kernel_rfl) hS (y_run (by rfl) fun _ => by rfl) ?_
  simp only [Act.put, List.setIfInBounds_toArray, List.set_cons_zero, List.set_cons_succ]
  refine mv_yield (i := 3) (d := 27) (.agg WW) rfl rfl (by kernel_rfl) (by kernel_rfl) (by kernel_rfl) hS (y_load (by rfl) rfl rfl A2.out Try.underlying24 (HI.out _ RW.out.1)) ?_
  simp only [Act.put, List.setIfInBounds_toArray, List.set_cons_zero, List.set_cons_succ]
  refine mv_call (i := 4) (d := 28) (v := .bool true) #[.agg WW] rfl rfl (by kernel_rfl) (by rfl) rfl hS enter_held (by kernel_rfl) (HWW.out _) ?_
  clear hS
  rintro w' hS
  simp only [Act.put, List.setIfInBounds_toArray, List.set_cons_zero, List.set_cons_succ]
  refine mv_yield (i := 5) (d := 29) (.bool true) rfl rfl (by kernel_rfl) (by kernel_rfl) (by kernel_rfl) hS (y_run (by rfl) fun _ => by rfl) ?_
  simp only [Act.put, List.setIfInBounds_toArray, List.set_cons_zero, List.set_cons_succ]
  refine mv_yield (i := 6) (d := 30) (.bool true) rfl rfl (by kernel_rfl) (by kernel_rfl) (by kernel_rfl) hS (y_run (by rfl) fun _ => by rfl) ?_
  simp only [Act.put, List.setIfInBounds_toArray, List.set_cons_zero, List.set_cons_succ]
  refine mv_yield (i := 7) (d := 31) (.agg FF) rfl rfl (by kernel_rfl) (by kernel_rfl) (by kernel_rfl) hS (y_load (by rfl) rfl rfl A3.out Try.underlying24 (HI.out _ RF.out.1)) ?_
  simp only [Act.put, List.setIfInBounds_toArray, List.set_cons_zero, List.set_cons_succ]
  refine mv_yield (i := 8) (d := 32) (.agg E) rfl rfl (by kernel_rfl) (by kernel_rfl) (by kernel_rfl) hS (y_build (by rfl) rfl (BE.out _)) ?_
  simp only [Act.put, List.setIfInBounds_toArray, List.set_cons_zero, List.set_cons_succ]
  refine mv_yield (i := 9) (d := 33) (.bool true) rfl rfl (by kernel_rfl) (by kernel_rfl) (by kernel_rfl) hS (y_eql (by rfl) rfl rfl rfl no_guard e1) ?_
  simp only [Act.put, List.setIfInBounds_toArray, List.set_cons_zero, List.set_cons_succ]
  refine mv_yield (i := 10) (d := 34) (.bool true) rfl rfl (by kernel_rfl) (by kernel_rfl) (by kernel_rfl) hS (y_run (by rfl) fun _ => by rfl) ?_
  simp only [Act.put, List.setIfInBounds_toArray, List.set_cons_zero, List.set_cons_succ]
  refine mv_yield (i := 11) (d := 35) (.bool true) rfl rfl (by kernel_rfl) (by kernel_rfl) (by kernel_rfl) hS (y_run (by rfl) fun _ => by rfl) ?_
  simp only [Act.put, List.setIfInBounds_toArray, List.set_cons_zero, List.set_cons_succ]
  refine mv_yield (i := 12) (d := 36) (.agg LL) rfl rfl (by kernel_rfl) (by kernel_rfl) (by kernel_rfl) hS (y_load (by rfl) rfl rfl A4.out Try.underlying24 (HI.out _ RL.out.1)) ?_
  simp only [Act.put, List.setIfInBounds_toArray, List.set_cons_zero, List.set_cons_succ]
  refine mv_yield (i := 13) (d := 37) (.agg E) rfl rfl (by kernel_rfl) (by kernel_rfl) (by kernel_rfl) hS (y_build (by rfl) rfl (BE.out _)) ?_
  simp only [Act.put, List.setIfInBounds_toArray, List.set_cons_zero, List.set_cons_succ]
  refine mv_yield (i := 14) (d := 38) (.bool true) rfl rfl (by kernel_rfl) (by kernel_rfl) (by kernel_rfl) hS (y_eql (by rfl) rfl rfl rfl no_guard e2) ?_
  simp only [Act.put, List.setIfInBounds_toArray, List.set_cons_zero, List.set_cons_succ]
  refine mv_yield (i := 15) (d := 39) (.bool true) rfl rfl (by kernel_rfl) (by kernel_rfl) (by kernel_rfl) hS (y_run (by rfl) fun _ => by rfl) ?_
  simp only [Act.put, List.setIfInBounds_toArray, List.set_cons_zero, List.set_cons_succ]
  refine mv_yield (i := 16) (d := 40) (.bool true) rfl rfl (by kernel_rfl) (by kernel_rfl) (by kernel_rfl) hS (y_run (by rfl) fun _ => by rfl) ?_
  simp only [Act.put, List.setIfInBounds_toArray, List.set_cons_zero, List.set_cons_succ]
  refine mv_yield (i := 17) (d := 41) (.agg WW) rfl rfl (by kernel_rfl) (by kernel_rfl) (by kernel_rfl) hS (y_load (by rfl) rfl rfl A2.out Try.underlying24 (HI.out _ RW.out.1)) ?_
  simp only [Act.put, List.setIfInBounds_toArray, List.set_cons_zero, List.set_cons_succ]
  refine mv_yield (i := 20) (d := 44) (.agg X0) rfl rfl (by kernel_rfl) (by kernel_rfl) (by kernel_rfl) hS (y_load (by rfl) rfl rfl A0.out Try.underlying24 (HI.out _ S0.out)) ?_
  simp only [Act.put, List.setIfInBounds_toArray, List.set_cons_zero, List.set_cons_succ]
  refine mv_yield (i := 21) (d := 45) (.agg X1) rfl rfl (by kernel_rfl) (by kernel_rfl) (by kernel_rfl) hS (y_load (by rfl) rfl rfl A1.out Try.underlying24 (HI.out _ S1.out)) ?_
  simp only [Act.put, List.setIfInBounds_toArray, List.set_cons_zero, List.set_cons_succ]
  refine wpAnyH_ready (rs := [18, 22]) (by kernel_rfl) (by simp) (ar_slice (i := 18) (d := 42) (vs := #[(0, .agg WW)]) rfl rfl (by rfl) rfl (by kernel_rfl) KK1.out hS (fun hS => ?_) (ar_slice (i := 22) (d := 46) (vs := #[(0, .agg X0), (1, .agg X1)]) rfl rfl (by rfl) rfl (by kernel_rfl) KK2.out hS (fun hS => ?_) AllReadyH.nil))
  · simp only [Act.put, List.setIfInBounds_toArray, List.set_cons_zero, List.set_cons_succ]
    have a_p1 := Lib.hid (At.new w' K1 24)
    revert a_p1 hS
    generalize w'.alloc (.cells K1 24) = w7
    generalize w'.heap.size = p1
    intro hS a_p1
    refine wpAnyH_ready (rs := [19, 22]) (by kernel_rfl) (by simp) (ar_call (i := 19) (d := 43) (v := .int .i64 m1) #[.slice (some ⟨p1, 0, none⟩) 1 1] rfl rfl (by rfl) rfl hS enter_most (by kernel_rfl) (M1.out _ _ a_p1.out) ?_ (ar_slice (i := 22) (d := 46) (vs := #[(0, .agg X0), (1, .agg X1)]) rfl rfl (by rfl) rfl (by kernel_rfl) KK2.out hS (fun hS => ?_) AllReadyH.nil))
    · clear hS
      rintro w8 hb' hS
      clear hb'
      simp only [Act.put, List.setIfInBounds_toArray, List.set_cons_zero, List.set_cons_succ]
      refine wpAnyH_ready (rs := [22]) (by kernel_rfl) (by simp) (ar_slice (i := 22) (d := 46) (vs := #[(0, .agg X0), (1, .agg X1)]) rfl rfl (by rfl) rfl (by kernel_rfl) KK2.out hS (fun hS => ?_) AllReadyH.nil)
      simp only [Act.put, List.setIfInBounds_toArray, List.set_cons_zero, List.set_cons_succ]
      have a_p2 := Lib.hid (At.new w8 K2 24)
      revert a_p2 hS
      generalize w8.alloc (.cells K2 24) = w9
      generalize w8.heap.size = p2
      intro hS a_p2
      refine wpAnyH_ready (rs := [23]) (by kernel_rfl) (by simp) (ar_call (i := 23) (d := 47) (v := .int .i64 m2) #[.slice (some ⟨p2, 0, none⟩) 2 2] rfl rfl (by rfl) rfl hS enter_most (by kernel_rfl) (M2.out _ _ a_p2.out) ?_ AllReadyH.nil)
      clear hS
      rintro w10 hb' hS
      clear hb'
      simp only [Act.put, List.setIfInBounds_toArray, List.set_cons_zero, List.set_cons_succ]
      refine mv_yield (i := 24) (d := 48) (.int .i64 (8 * m2)) rfl rfl (by kernel_rfl) (by kernel_rfl) (by kernel_rfl) hS (y_run (by rfl) fun _ => by go_simp) ?_
      simp only [Act.put, List.setIfInBounds_toArray, List.set_cons_zero, List.set_cons_succ]
      refine mv_yield (i := 25) (d := 49) (.int .i64 (8 * m2 + 8)) rfl rfl (by kernel_rfl) (by kernel_rfl) (by kernel_rfl) hS (y_run (by rfl) fun _ => by go_simp) ?_
      simp only [Act.put, List.setIfInBounds_toArray, List.set_cons_zero, List.set_cons_succ]
      refine mv_yield (i := 26) (d := 50) (.bool true) rfl rfl (by kernel_rfl) (by kernel_rfl) (by kernel_rfl) hS (y_run (by rfl) fun _ => by go_simp) ?_
      simp only [Act.put, List.setIfInBounds_toArray, List.set_cons_zero, List.set_cons_succ]
      refine mv_yield (i := 27) (d := 51) (.bool true) rfl rfl (by kernel_rfl) (by kernel_rfl) (by kernel_rfl) hS (y_run (by rfl) fun _ => by rfl) ?_
      simp only [Act.put, List.setIfInBounds_toArray, List.set_cons_zero, List.set_cons_succ]
      refine mv_yield (i := 28) (d := 4) (.bool true) rfl rfl (by kernel_rfl) (by kernel_rfl) (by kernel_rfl) hS (y_run (by rfl) fun _ => by rfl) ?_
      simp only [Act.put, List.setIfInBounds_toArray, List.set_cons_zero, List.set_cons_succ]
      refine mv_done (by kernel_rfl) ?_
      have HB := Lib.hid (below_trans SZ.out.1 hS (Below.size SZ.out.1))
      clear hS
      go_wp2
      go_ret
      exact ⟨rfl, HB.out⟩
    · simp only [Act.put, List.setIfInBounds_toArray, List.set_cons_zero, List.set_cons_succ]
      replace a_p1 := Lib.hid (a_p1.out.alloc (.cells K2 24))
      have a_p2 := Lib.hid (At.new w7 K2 24)
      revert a_p1 a_p2 hS
      generalize w7.alloc (.cells K2 24) = w8
      generalize w7.heap.size = p2
      intro hS a_p1 a_p2
      refine wpAnyH_ready (rs := [19]) (by kernel_rfl) (by simp) (ar_call (i := 19) (d := 43) (v := .int .i64 m1) #[.slice (some ⟨p1, 0, none⟩) 1 1] rfl rfl (by rfl) rfl hS enter_most (by kernel_rfl) (M1.out _ _ a_p1.out) ?_ AllReadyH.nil)
      clear hS
      rintro w9 hb' hS
      replace a_p2 := Lib.hid (a_p2.out.below hb' a_p2.out.lt)
      clear hb'
      simp only [Act.put, List.setIfInBounds_toArray, List.set_cons_zero, List.set_cons_succ]
      refine wpAnyH_ready (rs := [23]) (by kernel_rfl) (by simp) (ar_call (i := 23) (d := 47) (v := .int .i64 m2) #[.slice (some ⟨p2, 0, none⟩) 2 2] rfl rfl (by rfl) rfl hS enter_most (by kernel_rfl) (M2.out _ _ a_p2.out) ?_ AllReadyH.nil)
      clear hS
      rintro w10 hb' hS
      clear hb'
      simp only [Act.put, List.setIfInBounds_toArray, List.set_cons_zero, List.set_cons_succ]
      refine mv_yield (i := 24) (d := 48) (.int .i64 (8 * m2)) rfl rfl (by kernel_rfl) (by kernel_rfl) (by kernel_rfl) hS (y_run (by rfl) fun _ => by go_simp) ?_
      simp only [Act.put, List.setIfInBounds_toArray, List.set_cons_zero, List.set_cons_succ]
      refine mv_yield (i := 25) (d := 49) (.int .i64 (8 * m2 + 8)) rfl rfl (by kernel_rfl) (by kernel_rfl) (by kernel_rfl) hS (y_run (by rfl) fun _ => by go_simp) ?_
      simp only [Act.put, List.setIfInBounds_toArray, List.set_cons_zero, List.set_cons_succ]
      refine mv_yield (i := 26) (d := 50) (.bool true) rfl rfl (by kernel_rfl) (by kernel_rfl) (by kernel_rfl) hS (y_run (by rfl) fun _ => by go_simp) ?_
      simp only [Act.put, List.setIfInBounds_toArray, List.set_cons_zero, List.set_cons_succ]
      refine mv_yield (i := 27) (d := 51) (.bool true) rfl rfl (by kernel_rfl) (by kernel_rfl) (by kernel_rfl) hS (y_run (by rfl) fun _ => by rfl) ?_
      simp only [Act.put, List.setIfInBounds_toArray, List.set_cons_zero, List.set_cons_succ]
      refine mv_yield (i := 28) (d := 4) (.bool true) rfl rfl (by kernel_rfl) (by kernel_rfl) (by kernel_rfl) hS (y_run (by rfl) fun _ => by rfl) ?_
      simp only [Act.put, List.setIfInBounds_toArray, List.set_cons_zero, List.set_cons_succ]
      refine mv_done (by kernel_rfl) ?_
      have HB := Lib.hid (below_trans SZ.out.1 hS (Below.size SZ.out.1))
      clear hS
      go_wp2
      go_ret
      exact ⟨rfl, HB.out⟩
  · simp only [Act.put, List.setIfInBounds_toArray, List.set_cons_zero, List.set_cons_succ]
    have a_p2 := Lib.hid (At.new w' K2 24)
    revert a_p2 hS
    generalize w'.alloc (.cells K2 24) = w7
    generalize w'.heap.size = p2
    intro hS a_p2
    refine wpAnyH_ready (rs := [18]) (by kernel_rfl) (by simp) (ar_slice (i := 18) (d := 42) (vs := #[(0, .agg WW)]) rfl rfl (by rfl) rfl (by kernel_rfl) KK1.out hS (fun hS => ?_) AllReadyH.nil)
    simp only [Act.put, List.setIfInBounds_toArray, List.set_cons_zero, List.set_cons_succ]
    replace a_p2 := Lib.hid (a_p2.out.alloc (.cells K1 24))
    have a_p1 := Lib.hid (At.new w7 K1 24)
    revert a_p1 a_p2 hS
    generalize w7.alloc (.cells K1 24) = w8
    generalize w7.heap.size = p1
    intro hS a_p2 a_p1
    refine wpAnyH_ready (rs := [19]) (by kernel_rfl) (by simp) (ar_call (i := 19) (d := 43) (v := .int .i64 m1) #[.slice (some ⟨p1, 0, none⟩) 1 1] rfl rfl (by rfl) rfl hS enter_most (by kernel_rfl) (M1.out _ _ a_p1.out) ?_ AllReadyH.nil)
    clear hS
    rintro w9 hb' hS
    replace a_p2 := Lib.hid (a_p2.out.below hb' a_p2.out.lt)
    clear hb'
    simp only [Act.put, List.setIfInBounds_toArray, List.set_cons_zero, List.set_cons_succ]
    refine wpAnyH_ready (rs := [23]) (by kernel_rfl) (by simp) (ar_call (i := 23) (d := 47) (v := .int .i64 m2) #[.slice (some ⟨p2, 0, none⟩) 2 2] rfl rfl (by rfl) rfl hS enter_most (by kernel_rfl) (M2.out _ _ a_p2.out) ?_ AllReadyH.nil)
    clear hS
    rintro w10 hb' hS
    clear hb'
    simp only [Act.put, List.setIfInBounds_toArray, List.set_cons_zero, List.set_cons_succ]
    refine mv_yield (i := 24) (d := 48) (.int .i64 (8 * m2)) rfl rfl (by kernel_rfl) (by kernel_rfl) (by kernel_rfl) hS (y_run (by rfl) fun _ => by go_simp) ?_
    simp only [Act.put, List.setIfInBounds_toArray, List.set_cons_zero, List.set_cons_succ]
    refine mv_yield (i := 25) (d := 49) (.int .i64 (8 * m2 + 8)) rfl rfl (by kernel_rfl) (by kernel_rfl) (by kernel_rfl) hS (y_run (by rfl) fun _ => by go_simp) ?_
    simp only [Act.put, List.setIfInBounds_toArray, List.set_cons_zero, List.set_cons_succ]
    refine mv_yield (i := 26) (d := 50) (.bool true) rfl rfl (by kernel_rfl) (by kernel_rfl) (by kernel_rfl) hS (y_run (by rfl) fun _ => by go_simp) ?_
    simp only [Act.put, List.setIfInBounds_toArray, List.set_cons_zero, List.set_cons_succ]
    refine mv_yield (i := 27) (d := 51) (.bool true) rfl rfl (by kernel_rfl) (by kernel_rfl) (by kernel_rfl) hS (y_run (by rfl) fun _ => by rfl) ?_
    simp only [Act.put, List.setIfInBounds_toArray, List.set_cons_zero, List.set_cons_succ]
    refine mv_yield (i := 28) (d := 4) (.bool true) rfl rfl (by kernel_rfl) (by kernel_rfl) (by kernel_rfl) hS (y_run (by rfl) fun _ => by rfl) ?_
    simp only [Act.put, List.setIfInBounds_toArray, List.set_cons_zero, List.set_cons_succ]
    refine mv_done (by kernel_rfl) ?_
    have HB := Lib.hid (below_trans SZ.out.1 hS (Below.size SZ.out.1))
    clear hS
    go_wp2
    go_ret
    exact ⟨rfl, HB.out⟩
end Go.Proofs.Ytabenllglldkkaa.Md
