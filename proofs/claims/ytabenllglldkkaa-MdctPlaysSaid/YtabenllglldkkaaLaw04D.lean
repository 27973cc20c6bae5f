/- The statements' walks of layer 4, fourth part: MdctOver. -/
import Derived.Test.YtabenllglldkkaaMdMw
import Derived.Test.YtabenllglldkkaaMdOver
import Derived.Test.YtabenllglldkkaaLaw04B
namespace Go.Proofs.Ytabenllglldkkaa.Md
open Go.RowKit Go.Proofs.Ytabenllglldkkaa.Ang

theorem b_bd {f : Nat → Int} (hf : Le 1048576 f) (n : Nat) : ab (bS f n) ≤ 8388608 := by
  have h := ab_prod (g_bd hf n) (win_bd n)
  unfold bS
  generalize gS f n * winS n = q at *
  unfold nr16
  unfold ab at *
  omega
theorem ov_sum {f g : Nat → Int} {k : Nat} (hf : ab (f k) ≤ 8388608) (hg : ab (g k) ≤ 8388608) : ovS f g k = f k + g k := by
  unfold ovS ct
  unfold ab at *
  omega

/-- Three rows that came in. -/
def In3 (w w' : World) (T0 T1 T2 : Array Value) : Prop :=
  Below w.heap.size w w' ∧ At w' w.heap.size T0 22 ∧ At w' (w.heap.size + 1) T1 22 ∧ At w' (w.heap.size + 1 + 1) T2 22
theorem In3.start (w : World) (T0 T1 T2 : Array Value) : In3 w (((w.alloc (.cells T0 22)).alloc (.cells T1 22)).alloc (.cells T2 22)) T0 T1 T2 := by
  refine ⟨(((Below.refl _ _).alloc (Nat.le_refl _) _).alloc (by simp) _).alloc (by simp; omega) _, ((At.new _ _ _).alloc _).alloc _, ?_, ?_⟩
  · have := (At.new (w.alloc (.cells T0 22)) T1 22).alloc (.cells T2 22)
    simpa using this
  · have := At.new ((w.alloc (.cells T0 22)).alloc (.cells T1 22)) T2 22
    simpa using this
theorem In3.below {w w1 w2 : World} {T0 T1 T2 : Array Value} (h : In3 w w1 T0 T1 T2) (hb : Below w1.heap.size w1 w2) : In3 w w2 T0 T1 T2 :=
  ⟨below_trans h.1 hb h.1.size, h.2.1.below hb h.2.1.lt, h.2.2.1.below hb h.2.2.1.lt, h.2.2.2.below hb h.2.2.2.lt⟩

/-- Two new rows, both stored. -/
theorem two_keep {w : World} {Z F L A : Array Value} {b : Nat} {t : TypeId} (hA : At w b A t) : At ((((w.alloc (.cells Z 24)).alloc (.cells Z 24)).setRow w.heap.size F).setRow (w.heap.size + 1) L) b A t := by
  have := hA.lt
  exact (((hA.alloc _).alloc _).setRow_other (by omega)).setRow_other (by omega)
theorem two_first {w : World} {Z F L : Array Value} : At ((((w.alloc (.cells Z 24)).alloc (.cells Z 24)).setRow w.heap.size F).setRow (w.heap.size + 1) L) w.heap.size F 24 := by
  have a1 : At ((w.alloc (.cells Z 24)).alloc (.cells Z 24)) w.heap.size Z 24 := heap_alloc2_old _ _ _
  exact a1.setRow.setRow_other (by omega)
theorem two_last {w : World} {Z F L : Array Value} : At ((((w.alloc (.cells Z 24)).alloc (.cells Z 24)).setRow w.heap.size F).setRow (w.heap.size + 1) L) (w.heap.size + 1) L 24 := by
  have a2 : At ((w.alloc (.cells Z 24)).alloc (.cells Z 24)) (w.heap.size + 1) Z 24 := heap_alloc2_new _ _ _
  exact (a2.setRow_other (by omega)).setRow
theorem two_below {w0 w : World} {Z F L : Array Value} (hb : Below w0.heap.size w0 w) : Below w0.heap.size w0 ((((w.alloc (.cells Z 24)).alloc (.cells Z 24)).setRow w.heap.size F).setRow (w.heap.size + 1) L) := by
  have hs := hb.size
  exact below_setRow' (below_setRow' ((hb.alloc hs _).alloc (by simp; omega) _) hs _) (by omega) _

/-- A slice of frames written out, in the order of the text. -/
theorem wpList_slice {ops : Array Oper} {rest : List Oper} {o : Oper} {a : Act} {w : World} {Q : Exit → Act → World → Prop} (hw : Region.wanted o (yielded ops a.tmps) = true) (t : TypeId) (n : Nat) (parts : Array (Nat × Operand)) (ho : o.op = .buildSlice t n parts)
    (vs : Array (Nat × Value)) (C : Array Value) (hv : (parts.map fun (i, x) => (i, a.eval x)) = vs)
    (hr : ∀ w, (Instr.buildSlice t n vs).run Try.prog w = .ok (.slice (some ⟨w.heap.size, 0, none⟩) n n) (w.alloc (.cells C 24)))
    (h : wpList Try.prog ops Q rest (a.put o.dst (.slice (some ⟨w.heap.size, 0, none⟩) n n)) (w.alloc (.cells C 24))) : wpList Try.prog ops Q (o :: rest) a w := by
  rw [wpList, if_pos hw]
  refine .inl ?_
  unfold Oper.wp execOp
  simp only [ho, hv, hr, Sem.run_bind, Result.andThen_ok, Sem.run_pure]
  exact h

/-- What stands while MdctOver is told. -/
def OvI (w w' : World) (X1 OO : Array Value) (c8 c14 : Nat) : Prop := Below w.heap.size w w' ∧ At w' c8 X1 24 ∧ At w' c14 OO 24

set_option maxRecDepth 100000 in
set_option maxHeartbeats 2000000 in
theorem mdctOver_walk (T0 T1 T2 : Array Value) (f0 f1 f2 : Nat → Int) (h0 : IsRow 16 f0 T0) (h1 : IsRow 16 f1 T1) (h2 : IsRow 16 f2 T2) (w : World) :
    Calls Try.prog 3 #[.agg T0, .agg T1, .agg T2] w fun e w' => e = .returned (.bool true) ∧ Below w.heap.size w w' := by
  obtain ⟨Z, hZ, hZ0, hz, hi⟩ := zero_block
  obtain ⟨Y, hY, hY0, hy, hj⟩ := zero_16
  obtain ⟨X0, hX0⟩ : ∃ A, rowL 16 (smS f0) 16 = A := ⟨_, rfl⟩
  have r0 : IsRow 16 (smS f0) X0 := by rw [← hX0]; exact isRow _ _
  have C0 := Lib.hid (fun w => small_any T0 f0 h0 w)
  rw [hX0] at C0
  have R0 := Lib.hid r0
  have S0 := Lib.hid r0.1
  have O0 := Lib.hid r0.2.1
  have HT0 := Lib.hid h0
  obtain ⟨X1, hX1⟩ : ∃ A, rowL 16 (smS f1) 16 = A := ⟨_, rfl⟩
  have r1 : IsRow 16 (smS f1) X1 := by rw [← hX1]; exact isRow _ _
  have C1 := Lib.hid (fun w => small_any T1 f1 h1 w)
  rw [hX1] at C1
  have R1 := Lib.hid r1
  have S1 := Lib.hid r1.1
  have O1 := Lib.hid r1.2.1
  have HT1 := Lib.hid h1
  obtain ⟨X2, hX2⟩ : ∃ A, rowL 16 (smS f2) 16 = A := ⟨_, rfl⟩
  have r2 : IsRow 16 (smS f2) X2 := by rw [← hX2]; exact isRow _ _
  have C2 := Lib.hid (fun w => small_any T2 f2 h2 w)
  rw [hX2] at C2
  have R2 := Lib.hid r2
  have S2 := Lib.hid r2.1
  have O2 := Lib.hid r2.2.1
  have HT2 := Lib.hid h2
  obtain ⟨W1, hW1⟩ : ∃ A, rowL 16 (wS (smS f0) (smS f1)) 16 = A := ⟨_, rfl⟩
  have rW1 : IsRow 16 (wS (smS f0) (smS f1)) W1 := by rw [← hW1]; exact isRow _ _
  have lW1 : Le 1048576 (wS (smS f0) (smS f1)) := fun k _ => Int.le_trans (w_small (sm_le f0) (sm_le f1) k) (by decide)
  obtain ⟨F1, hF1⟩ : ∃ A, rowL 16 (bS (wS (smS f0) (smS f1))) 16 = A := ⟨_, rfl⟩
  obtain ⟨L1, hL1⟩ : ∃ A, rowL 16 (fun i => bS (wS (smS f0) (smS f1)) (16 + i)) 16 = A := ⟨_, rfl⟩
  have RF1 := Lib.hid (show IsRow 16 (bS (wS (smS f0) (smS f1))) F1 by rw [← hF1]; exact isRow _ _)
  have RL1 := Lib.hid (show IsRow 16 (fun i => bS (wS (smS f0) (smS f1)) (16 + i)) L1 by rw [← hL1]; exact isRow _ _)
  have CW1 := Lib.hid (fun w => waves_yes X0 X1 (smS f0) (smS f1) r0 r1 ((sm_le f0).mono (by decide)) ((sm_le f1).mono (by decide)) w)
  have CB1 := Lib.hid (fun w => back_yes W1 _ rW1 lW1 w)
  rw [hW1] at CW1
  rw [hF1, hL1] at CB1
  have LW1 := Lib.hid lW1
  obtain ⟨W2, hW2⟩ : ∃ A, rowL 16 (wS (smS f1) (smS f2)) 16 = A := ⟨_, rfl⟩
  have rW2 : IsRow 16 (wS (smS f1) (smS f2)) W2 := by rw [← hW2]; exact isRow _ _
  have lW2 : Le 1048576 (wS (smS f1) (smS f2)) := fun k _ => Int.le_trans (w_small (sm_le f1) (sm_le f2) k) (by decide)
  obtain ⟨F2, hF2⟩ : ∃ A, rowL 16 (bS (wS (smS f1) (smS f2))) 16 = A := ⟨_, rfl⟩
  obtain ⟨L2, hL2⟩ : ∃ A, rowL 16 (fun i => bS (wS (smS f1) (smS f2)) (16 + i)) 16 = A := ⟨_, rfl⟩
  have RF2 := Lib.hid (show IsRow 16 (bS (wS (smS f1) (smS f2))) F2 by rw [← hF2]; exact isRow _ _)
  have RL2 := Lib.hid (show IsRow 16 (fun i => bS (wS (smS f1) (smS f2)) (16 + i)) L2 by rw [← hL2]; exact isRow _ _)
  have CW2 := Lib.hid (fun w => waves_yes X1 X2 (smS f1) (smS f2) r1 r2 ((sm_le f1).mono (by decide)) ((sm_le f2).mono (by decide)) w)
  have CB2 := Lib.hid (fun w => back_yes W2 _ rW2 lW2 w)
  rw [hW2] at CW2
  rw [hF2, hL2] at CB2
  have LW2 := Lib.hid lW2
  obtain ⟨OO, hOO⟩ : ∃ A, rowL 16 (ovS (fun i => bS (wS (smS f0) (smS f1)) (16 + i)) (bS (wS (smS f1) (smS f2)))) 16 = A := ⟨_, rfl⟩
  have RO := Lib.hid (show IsRow 16 (ovS (fun i => bS (wS (smS f0) (smS f1)) (16 + i)) (bS (wS (smS f1) (smS f2)))) OO by rw [← hOO]; exact isRow _ _)
  have CO := Lib.hid (fun w => over_any L1 F2 _ _ RL1.out RF2.out w)
  rw [hOO] at CO
  obtain ⟨K, k, k'⟩ := slice_rows 3 (by omega) (by omega) (fun i => if i = 0 then X0 else if i = 1 then X1 else X2) (fun i => if i = 0 then smS f0 else if i = 1 then smS f1 else smS f2)
    (fun i => by by_cases e : i = 0; (rw [if_pos e]; exact r0.1); (rw [if_neg e]; by_cases e1 : i = 1; (rw [if_pos e1]; exact r1.1); (rw [if_neg e1]; exact r2.1)))
    (fun i hi => by by_cases e : i = 0; (rw [if_pos e, if_pos e]; exact r0); (rw [if_neg e, if_neg e]; by_cases e1 : i = 1; (rw [if_pos e1, if_pos e1]; exact r1); (rw [if_neg e1, if_neg e1]; exact r2)))
  have lG : ∀ i, Le 65536 ((fun i => if i = 0 then smS f0 else if i = 1 then smS f1 else smS f2) i) := fun i => by
    by_cases e : i = 0
    · simp only [if_pos e]; exact sm_le f0
    · simp only [if_neg e]
      by_cases e1 : i = 1
      · simp only [if_pos e1]; exact sm_le f1
      · simp only [if_neg e1]; exact sm_le f2
  have MO := Lib.hid (fun w b h => most_any 3 b (fun i => if i = 0 then smS f0 else if i = 1 then smS f1 else smS f2) K k (by omega) (fun i _ => (lG i).mono (by decide)) w h)
  obtain ⟨g0, g1⟩ := mx_ge (fun i => if i = 0 then smS f0 else if i = 1 then smS f1 else smS f2) 3
  have g2 : mx (fun i => if i = 0 then smS f0 else if i = 1 then smS f1 else smS f2) 3 ≤ 65536 := mx_le _ _ _ (by omega) fun i _ => lG i
  have gX : Le (mx (fun i => if i = 0 then smS f0 else if i = 1 then smS f1 else smS f2) 3) (smS f0) := g1 0 (by omega)
  have gY : Le (mx (fun i => if i = 0 then smS f0 else if i = 1 then smS f1 else smS f2) 3) (smS f1) := g1 1 (by omega)
  have gZ : Le (mx (fun i => if i = 0 then smS f0 else if i = 1 then smS f1 else smS f2) 3) (smS f2) := g1 2 (by omega)
  revert MO g0 g2 gX gY gZ
  generalize mx (fun i => if i = 0 then smS f0 else if i = 1 then smS f1 else smS f2) 3 = m
  intro MO g0 g2 gX gY gZ
  have near := Lib.hid (fun i hi => over_near g0 gX gY gZ i hi)
  have KK := Lib.hid k'
  have HZ := Lib.hid hZ
  have HI := Lib.hid hi
  have HJ := Lib.hid hj
  have HS := Lib.hid (In3.start w T0 T1 T2)
  clear hZ hi hj hZ0 hY0 hY hX0 hX1 hX2 r0 r1 r2 h0 h1 h2 hW1 hW2 rW1 rW2 lW1 lW2 hF1 hF2 hL1 hL2 hOO k k' lG g1 gX gY gZ
  go_enter Try.func3, Try.ntmps3
  go_wp2_with fail
  refine (awake_yes _).mono ?_
  rintro e w1 ⟨rfl, hw1⟩
  have H1 := Lib.hid (HS.out.below hw1)
  clear HS hw1
  go_wp2_with fail
  refine mv_start fun hS => ?_
  refine mv_yield (i := 0) (d := 19) (.agg T0) rfl rfl (by kernel_rfl) (by kernel_rfl) (by kernel_rfl) hS (y_load (by rfl) rfl rfl H1.out.2.1 Try.underlying22 (HJ.out _ HT0.out.1)) ?_
  simp only [Act.put, List.setIfInBounds_toArray, List.set_cons_zero, List.set_cons_succ]
  refine mv_yield (i := 2) (d := 21) (.agg T1) rfl rfl (by kernel_rfl) (by kernel_rfl) (by kernel_rfl) hS (y_load (by rfl) rfl rfl H1.out.2.2.1 Try.underlying22 (HJ.out _ HT1.out.1)) ?_
  simp only [Act.put, List.setIfInBounds_toArray, List.set_cons_zero, List.set_cons_succ]
  refine mv_yield (i := 4) (d := 23) (.agg T2) rfl rfl (by kernel_rfl) (by kernel_rfl) (by kernel_rfl) hS (y_load (by rfl) rfl rfl H1.out.2.2.2 Try.underlying22 (HJ.out _ HT2.out.1)) ?_
  simp only [Act.put, List.setIfInBounds_toArray, List.set_cons_zero, List.set_cons_succ]
  refine par0 (fuel := 3) [1, 3, 5, 6, 7, 8] [5, 3, 1, 6, 7, 8] (fun i => decide (6 ≤ i)) (fun i => if i = 1 then .agg X0 else if i = 3 then .agg X1 else .agg X2) (fun _ => Z) (fun _ => 24) #[true, true, true, true, true, true, true, true, true, false, false, false] _ rfl (by decide) (by decide) (by decide) rfl (by kernel_rfl) (by kernel_rfl) (by kernel_rfl) (by kernel_rfl) (by kernel_rfl) (by kernel_rfl) (by kernel_rfl) hS ?_ ?_
  · intro i hi
    simp only [List.mem_cons, List.not_mem_nil, or_false] at hi
    rcases hi with rfl | rfl | rfl | rfl | rfl | rfl
    · exact ⟨_, rfl, fun w _ => st_call (isA := fun i => decide (6 ≤ i)) (V := fun i => if i = 1 then .agg X0 else if i = 3 then .agg X1 else .agg X2) (Zc := fun _ => Z) (ty := fun _ => 24) (i := 1) #[.agg T0] rfl rfl rfl enter_small (by kernel_rfl) (C0.out _)⟩
    · exact ⟨_, rfl, fun w _ => st_call (isA := fun i => decide (6 ≤ i)) (V := fun i => if i = 1 then .agg X0 else if i = 3 then .agg X1 else .agg X2) (Zc := fun _ => Z) (ty := fun _ => 24) (i := 3) #[.agg T1] rfl rfl rfl enter_small (by kernel_rfl) (C1.out _)⟩
    · exact ⟨_, rfl, fun w _ => st_call (isA := fun i => decide (6 ≤ i)) (V := fun i => if i = 1 then .agg X0 else if i = 3 then .agg X1 else .agg X2) (Zc := fun _ => Z) (ty := fun _ => 24) (i := 5) #[.agg T2] rfl rfl rfl enter_small (by kernel_rfl) (C2.out _)⟩
    · exact ⟨_, rfl, fun w _ => st_alloc (isA := fun i => decide (6 ≤ i)) (V := fun i => if i = 1 then .agg X0 else if i = 3 then .agg X1 else .agg X2) (Zc := fun _ => Z) (ty := fun _ => 24) (i := 6) rfl rfl rfl rfl hz⟩
    · exact ⟨_, rfl, fun w _ => st_alloc (isA := fun i => decide (6 ≤ i)) (V := fun i => if i = 1 then .agg X0 else if i = 3 then .agg X1 else .agg X2) (Zc := fun _ => Z) (ty := fun _ => 24) (i := 7) rfl rfl rfl rfl hz⟩
    · exact ⟨_, rfl, fun w _ => st_alloc (isA := fun i => decide (6 ≤ i)) (V := fun i => if i = 1 then .agg X0 else if i = 3 then .agg X1 else .agg X2) (Zc := fun _ => Z) (ty := fun _ => 24) (i := 8) rfl rfl rfl rfl hz⟩
  clear hS
  intro val w' hS hY hV
  have v1 : val 1 = .agg X0 := (hY 1 (by simp)).1 rfl
  have v3 : val 3 = .agg X1 := (hY 3 (by simp)).1 rfl
  have v5 : val 5 = .agg X2 := (hY 5 (by simp)).1 rfl
  obtain ⟨b6, e6, a6, g6⟩ : ∃ b, val 6 = .pointer (some ⟨b, 0, none⟩) ∧ At w' b Z 24 ∧ w1.heap.size ≤ b := (hY 6 (by simp)).2 rfl
  obtain ⟨b7, e7, a7, g7⟩ : ∃ b, val 7 = .pointer (some ⟨b, 0, none⟩) ∧ At w' b Z 24 ∧ w1.heap.size ≤ b := (hY 7 (by simp)).2 rfl
  obtain ⟨b8, e8, a8, g8⟩ : ∃ b, val 8 = .pointer (some ⟨b, 0, none⟩) ∧ At w' b Z 24 ∧ w1.heap.size ≤ b := (hY 8 (by simp)).2 rfl
  have n6_7 : b6 ≠ b7 := fun e => hV 6 (by simp) 7 (by simp) (by decide) rfl rfl (by rw [e6, e7, e])
  have n6_8 : b6 ≠ b8 := fun e => hV 6 (by simp) 8 (by simp) (by decide) rfl rfl (by rw [e6, e8, e])
  have n7_6 : b7 ≠ b6 := fun e => hV 7 (by simp) 6 (by simp) (by decide) rfl rfl (by rw [e7, e6, e])
  have n7_8 : b7 ≠ b8 := fun e => hV 7 (by simp) 8 (by simp) (by decide) rfl rfl (by rw [e7, e8, e])
  have n8_6 : b8 ≠ b6 := fun e => hV 8 (by simp) 6 (by simp) (by decide) rfl rfl (by rw [e8, e6, e])
  have n8_7 : b8 ≠ b7 := fun e => hV 8 (by simp) 7 (by simp) (by decide) rfl rfl (by rw [e8, e7, e])
  show wpAnyH _ _ _ _ _ _ _ (Act.put (Act.put (Act.put (Act.put (Act.put (Act.put _ (some 20) (val 1)) (some 22) (val 3)) (some 24) (val 5)) (some 7) (val 6)) (some 8) (val 7)) (some 9) (val 8)) _
  rw [v1, v3, v5, e6, e7, e8]
  simp only [Act.put, List.setIfInBounds_toArray, List.set_cons_zero, List.set_cons_succ]
  clear hY hV v1 v3 v5 e6 e7 e8
  refine mv_store (i := 9) b6 X0 _ rfl rfl (by kernel_rfl) (by rfl) rfl rfl rfl a6 (by rw [HZ.out.1, S0.out]) O0.out (HI.out _ S0.out) g6 hS (fun hS => ?_)
  refine mv_store (i := 10) b7 X1 _ rfl rfl (by kernel_rfl) (by rfl) rfl rfl rfl (a7.setRow_other n7_6) (by rw [HZ.out.1, S1.out]) O1.out (HI.out _ S1.out) g7 hS (fun hS => ?_)
  refine mv_store (i := 11) b8 X2 _ rfl rfl (by kernel_rfl) (by rfl) rfl rfl rfl ((a8.setRow_other n8_6).setRow_other n8_7) (by rw [HZ.out.1, S2.out]) O2.out (HI.out _ S2.out) g8 hS (fun hS => ?_)
  refine mv_done (by kernel_rfl) ?_
  have P6 := Lib.hid (((a6.setRow (C := X0)).setRow_other (C := X1) n6_7).setRow_other (C := X2) n6_8)
  have P7 := Lib.hid (((a7.setRow_other (C := X0) n7_6).setRow (C := X1)).setRow_other (C := X2) n7_8)
  have P8 := Lib.hid (((a8.setRow_other (C := X0) n8_6).setRow_other (C := X1) n8_7).setRow (C := X2))
  have B3 := Lib.hid (below_trans H1.out.1 hS H1.out.1.size)
  revert P6 P7 P8 B3
  generalize (((w'.setRow b6 X0).setRow b7 X1).setRow b8 X2) = w3
  intro P6 P7 P8 B3
  clear hS H1
  go_wp2_with (first
    | refine wpList_load_wanted (by rfl) 24 (.tmp 7) rfl b6 rfl _ _ _ _ P6.out Try.underlying24 (HI.out _ S0.out) ?_
    | refine wpList_load_wanted (by rfl) 24 (.tmp 8) rfl b7 rfl _ _ _ _ P7.out Try.underlying24 (HI.out _ S1.out) ?_)
  refine (CW1.out _).mono ?_
  rintro e w4 ⟨rfl, hw4⟩
  have Q6 := Lib.hid (P6.out.below hw4 P6.out.lt)
  have Q7 := Lib.hid (P7.out.below hw4 P7.out.lt)
  have Q8 := Lib.hid (P8.out.below hw4 P8.out.lt)
  have B4 := Lib.hid (below_trans B3.out hw4 B3.out.size)
  clear P6 P7 P8 B3 hw4
  go_wp2_with fail
  refine (CB1.out _).mono ?_
  rintro e w5 ⟨rfl, hw5⟩
  have P6 := Lib.hid (two_keep (Z := Z) (F := F1) (L := L1) (Q6.out.below hw5 Q6.out.lt))
  have P7 := Lib.hid (two_keep (Z := Z) (F := F1) (L := L1) (Q7.out.below hw5 Q7.out.lt))
  have P8 := Lib.hid (two_keep (Z := Z) (F := F1) (L := L1) (Q8.out.below hw5 Q8.out.lt))
  have P11 := Lib.hid (two_last (w := w5) (Z := Z) (F := F1) (L := L1))
  have B5 := Lib.hid (two_below (Z := Z) (F := F1) (L := L1) (below_trans B4.out hw5 B4.out.size))
  clear Q6 Q7 Q8 B4 hw5
  go_wp2_with (first
    | refine wpList_store_row rfl 24 _ _ rfl w5.heap.size F1 rfl rfl 24 Z (heap_alloc2_old w5 (.cells Z 24) (.cells Z 24)) (HI.out _ RF1.out.1) (by rw [RF1.out.1, HZ.out.1]) RF1.out.2.1 ?_
    | (refine wpList_store_row rfl 24 _ _ rfl (w5.heap.size + 1) L1 rfl rfl 24 Z ((Go.setRow_other _ _ _ _ (by omega)).trans (heap_alloc2_new w5 (.cells Z 24) (.cells Z 24))) (HI.out _ RL1.out.1) (by rw [RL1.out.1, HZ.out.1]) RL1.out.2.1 ?_
       revert P6 P7 P8 P11 B5
       generalize (((w5.alloc (.cells Z 24)).alloc (.cells Z 24)).setRow w5.heap.size F1).setRow (w5.heap.size + 1) L1 = w6
       generalize w5.heap.size + 1 = c11
       intro P6 P7 P8 P11 B5)
    | refine wpList_load_wanted (by rfl) 24 (.tmp 8) rfl b7 rfl _ _ _ _ P7.out Try.underlying24 (HI.out _ S1.out) ?_
    | refine wpList_load_wanted (by rfl) 24 (.tmp 9) rfl b8 rfl _ _ _ _ P8.out Try.underlying24 (HI.out _ S2.out) ?_)
  refine (CW2.out _).mono ?_
  rintro e w7 ⟨rfl, hw7⟩
  have Q6 := Lib.hid (P6.out.below hw7 P6.out.lt)
  have Q7 := Lib.hid (P7.out.below hw7 P7.out.lt)
  have Q8 := Lib.hid (P8.out.below hw7 P8.out.lt)
  have Q11 := Lib.hid (P11.out.below hw7 P11.out.lt)
  have B7 := Lib.hid (below_trans B5.out hw7 B5.out.size)
  clear P6 P7 P8 P11 B5 hw7
  go_wp2_with fail
  refine (CB2.out _).mono ?_
  rintro e w8 ⟨rfl, hw8⟩
  have P6 := Lib.hid (two_keep (Z := Z) (F := F2) (L := L2) (Q6.out.below hw8 Q6.out.lt))
  have P7 := Lib.hid (two_keep (Z := Z) (F := F2) (L := L2) (Q7.out.below hw8 Q7.out.lt))
  have P8 := Lib.hid (two_keep (Z := Z) (F := F2) (L := L2) (Q8.out.below hw8 Q8.out.lt))
  have P11 := Lib.hid (two_keep (Z := Z) (F := F2) (L := L2) (Q11.out.below hw8 Q11.out.lt))
  have P12 := Lib.hid (two_first (w := w8) (Z := Z) (F := F2) (L := L2))
  have B8 := Lib.hid (two_below (Z := Z) (F := F2) (L := L2) (below_trans B7.out hw8 B7.out.size))
  clear Q6 Q7 Q8 Q11 B7 hw8
  go_wp2_with (first
    | refine wpList_store_row rfl 24 _ _ rfl w8.heap.size F2 rfl rfl 24 Z (heap_alloc2_old w8 (.cells Z 24) (.cells Z 24)) (HI.out _ RF2.out.1) (by rw [RF2.out.1, HZ.out.1]) RF2.out.2.1 ?_
    | (refine wpList_store_row rfl 24 _ _ rfl (w8.heap.size + 1) L2 rfl rfl 24 Z ((Go.setRow_other _ _ _ _ (by omega)).trans (heap_alloc2_new w8 (.cells Z 24) (.cells Z 24))) (HI.out _ RL2.out.1) (by rw [RL2.out.1, HZ.out.1]) RL2.out.2.1 ?_
       revert P6 P7 P8 P11 P12 B8
       generalize (((w8.alloc (.cells Z 24)).alloc (.cells Z 24)).setRow w8.heap.size F2).setRow (w8.heap.size + 1) L2 = w9
       generalize w8.heap.size + 1 = c13
       generalize w8.heap.size = c12
       intro P6 P7 P8 P11 P12 B8)
    | refine wpList_load_wanted (by rfl) 24 (.tmp 11) rfl c11 rfl _ _ _ _ P11.out Try.underlying24 (HI.out _ RL1.out.1) ?_
    | refine wpList_load_wanted (by rfl) 24 (.tmp 12) rfl c12 rfl _ _ _ _ P12.out Try.underlying24 (HI.out _ RF2.out.1) ?_)
  refine (CO.out _).mono ?_
  rintro e w10 ⟨rfl, hw10⟩
  have Q6 := Lib.hid ((P6.out.below hw10 P6.out.lt).alloc (.cells OO 24))
  have Q7 := Lib.hid ((P7.out.below hw10 P7.out.lt).alloc (.cells OO 24))
  have Q8 := Lib.hid ((P8.out.below hw10 P8.out.lt).alloc (.cells OO 24))
  have Q14 := Lib.hid (At.new w10 OO 24)
  have b10 := below_trans B8.out hw10 B8.out.size
  have B10 := Lib.hid (b10.alloc b10.size (.cells OO 24))
  clear P6 P7 P8 P11 P12 B8 hw10 b10
  go_wp2_with (first
    | (refine wpList_store_row rfl 24 _ _ rfl w10.heap.size OO rfl rfl _ _ (heap_alloc_new _ _) (HI.out _ RO.out.1) (by rw [RO.out.1, HZ.out.1]) RO.out.2.1 ?_
       rw [World.setRow_alloc_new]
       revert Q6 Q7 Q8 Q14 B10
       generalize w10.alloc (.cells OO 24) = w11
       generalize w10.heap.size = c14
       intro Q6 Q7 Q8 Q14 B10)
    | refine wpList_load_wanted (by rfl) 24 (.tmp 7) rfl b6 rfl _ _ _ _ Q6.out Try.underlying24 (HI.out _ S0.out) ?_
    | refine wpList_load_wanted (by rfl) 24 (.tmp 8) rfl b7 rfl _ _ _ _ Q7.out Try.underlying24 (HI.out _ S1.out) ?_
    | refine wpList_load_wanted (by rfl) 24 (.tmp 9) rfl b8 rfl _ _ _ _ Q8.out Try.underlying24 (HI.out _ S2.out) ?_
    | refine wpList_slice (by rfl) 44 3 _ rfl #[(0, .agg X0), (1, .agg X1), (2, .agg X2)] K (by kernel_rfl) KK.out ?_)
  refine (MO.out _ _ (At.new _ _ _)).mono ?_
  rintro e w12 ⟨rfl, hw12⟩
  have hstart : OvI w w12 X1 OO b7 c14 := ⟨below_trans (B10.out.alloc B10.out.size _) hw12 (by have := B10.out.size; simp; omega), (Q7.out.alloc (.cells K 24)).below hw12 (Q7.out.alloc (.cells K 24)).lt, (Q14.out.alloc (.cells K 24)).below hw12 (Q14.out.alloc (.cells K 24)).lt⟩
  clear Q6 Q7 Q8 Q14 B10 hw12 MO KK
  go_wp2
  have room : ∀ k, k < 16 → ovS (fun i => bS (wS (smS f0) (smS f1)) (16 + i)) (bS (wS (smS f1) (smS f2))) k - smS f1 k ≤ 128 + m / 64 ∧ smS f1 k - ovS (fun i => bS (wS (smS f0) (smS f1)) (16 + i)) (bS (wS (smS f1) (smS f2))) k ≤ 128 + m / 64 ∧
      ab (ovS (fun i => bS (wS (smS f0) (smS f1)) (16 + i)) (bS (wS (smS f1) (smS f2))) k) ≤ 2147483648 := fun k hk => by
    rw [ov_sum (f := fun i => bS (wS (smS f0) (smS f1)) (16 + i)) (b_bd LW1.out (16 + k)) (b_bd LW2.out k)]
    have h1 := near.out k hk
    have h2 := b_bd LW1.out (16 + k)
    have h3 := b_bd LW2.out k
    generalize bS (wS (smS f0) (smS f1)) (16 + k) = p at *
    generalize bS (wS (smS f1) (smS f2)) k = q at *
    generalize smS f1 k = y at *
    unfold ab at *
    omega
  have HR := Lib.hid room
  obtain ⟨r, hr⟩ : ∃ r, 128 + m / 64 = r := ⟨_, rfl⟩
  have r0 : 0 ≤ r := by omega
  have r1 : r ≤ 2147483648 := by omega
  rw [hr] at HR
  rw [hr]
  clear room near hr g0 g2 CO CB1 CB2 CW1 CW2 C0 C1 C2
  go_loopw [16] (fun i w' => ∃ k : Nat, k ≤ 16 ∧ i = .int .i64 k ∧ OvI w w' X1 OO b7 c14) (fun i _ => 16 - (intOf i).toNat)
  case atStart => exact ⟨0, Nat.zero_le _, rfl, hstart⟩
  case round =>
    obtain ⟨k, hk, rfl, hinv⟩ := hrel
    clear hstart
    obtain ⟨hb, q0, q1⟩ := hinv
    by_cases hk16 : k < 16
    · have c0 := R1.out.cell q0 k hk16
      have c1 := RO.out.cell q1 k hk16
      have B0 := Lib.hid hb
      have Q0 := Lib.hid q0
      have Q1 := Lib.hid q1
      obtain ⟨s1, s2, s3⟩ := HR.out k hk16
      obtain ⟨s4, s5⟩ := le_ab s3
      obtain ⟨s6, s7⟩ := le_ab (sm_le f1 k hk16)
      generalize ovS (fun i => bS (wS (smS f0) (smS f1)) (16 + i)) (bS (wS (smS f1) (smS f2))) k = o at *
      generalize smS f1 k = y at *
      have k1 : (k : Int) < 16 := by omega
      have hm1 : IntKind.i64.wrap (o - y) = o - y := IntWalk.i64_in _ (by omega)
      have hm2 : IntKind.i64.wrap (y - o) = y - o := IntWalk.i64_in _ (by omega)
      have t1 : decide (r < o - y) = false := by simp; omega
      have t2 : decide (r < y - o) = false := by simp; omega
      clear q0 q1 hb s3
      go_wp2_with fail
      go_quiet (fail)
      clear hm1 hm2
      go_wp2
      go_roundw
      case rel => exact ⟨k + 1, by omega, by go_num, below_drewN B0.out _, Q0.out, Q1.out⟩
      case measure => simp [intOf]; omega
    · go_wp2
      go_ret
      exact ⟨rfl, hb⟩
end Go.Proofs.Ytabenllglldkkaa.Md
