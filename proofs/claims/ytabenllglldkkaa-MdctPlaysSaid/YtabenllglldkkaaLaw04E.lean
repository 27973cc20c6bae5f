/- The statements' walks of layer 4, fifth part: MdctPlays. -/
import Derived.Test.YtabenllglldkkaaLaw04C
import Derived.Test.YtabenllglldkkaaLaw04D
import Derived.Test.YtabenllglldkkaaMdRef4
namespace Go.Proofs.Ytabenllglldkkaa.Md
open Go.RowKit Go.Proofs.Ytabenllglldkkaa.Ang

theorem enter_refHeld (args : Array Value) (w : World) : (callFunc 15 args).run Try.prog w = .ok (.enter 15 args) w := run_enter Try.func15 (by kernel_rfl) rfl args w
theorem enter_refWaves (args : Array Value) (w : World) : (callFunc 16 args).run Try.prog w = .ok (.enter 16 args) w := run_enter Try.func16 (by kernel_rfl) rfl args w

/-- What stands while MdctPlays looks at the numbers. -/
def PlI (w w' : World) (T U F L WB OO : Array Value) (c6 c7 c8 c9 : Nat) : Prop :=
  Below w.heap.size w w' ∧ At w' w.heap.size T 22 ∧ At w' (w.heap.size + 1) U 22 ∧ At w' c6 F 24 ∧ At w' c7 L 24 ∧ At w' c8 WB 35 ∧ At w' c9 OO 24

set_option maxRecDepth 100000 in
set_option maxHeartbeats 4000000 in
theorem mdctPlays_YY (T U : Array Value) (f g : Nat → Int) (hT : IsRow 16 f T) (hU : IsRow 16 g U) (hf : Le 1048576 f) (hg : Le 1048576 g) (w : World) :
    Calls Try.prog 5 #[.agg T, .agg U] w fun e w' => e = .returned (.bool true) ∧ Below w.heap.size w w' := by
  obtain ⟨Z, hZ, hZ0, hz, hi⟩ := zero_block
  obtain ⟨Z16, hY, hY0, hy, hj⟩ := zero_16
  obtain ⟨Z32, hV, hV0, hv, hk⟩ := zero_32
  obtain ⟨E, hE, bE⟩ := built_none
  obtain ⟨WV, hWV⟩ : ∃ A, rowL 16 (wS f g) 16 = A := ⟨_, rfl⟩
  obtain ⟨F, hF⟩ : ∃ A, rowL 16 (bS f) 16 = A := ⟨_, rfl⟩
  obtain ⟨L, hL⟩ : ∃ A, rowL 16 (fun i => bS f (16 + i)) 16 = A := ⟨_, rfl⟩
  obtain ⟨OO, hOO⟩ : ∃ A, rowL 16 (ovS f g) 16 = A := ⟨_, rfl⟩
  have rW : IsRow 16 (wS f g) WV := by rw [← hWV]; exact isRow _ _
  have RF := Lib.hid (show IsRow 16 (bS f) F by rw [← hF]; exact isRow _ _)
  have RL := Lib.hid (show IsRow 16 (fun i => bS f (16 + i)) L by rw [← hL]; exact isRow _ _)
  have RO := Lib.hid (show IsRow 16 (ovS f g) OO by rw [← hOO]; exact isRow _ _)
  have RW := Lib.hid rW
  have SW := Lib.hid rW.1
  have CW := Lib.hid (fun w => waves_yes T U f g hT hU hf hg w)
  have CH := Lib.hid (fun w => held_yes T f hT hf w)
  have RA := Lib.hid (fun w => refHeld_yes T f hT hf w)
  have RB := Lib.hid (fun w => refHeld_yes U g hU hg w)
  have CB := Lib.hid (fun w => back_yes T f hT hf w)
  have CO := Lib.hid (fun w => over_any T U f g hT hU w)
  have CR := Lib.hid (fun w => refWaves_any T U f g hT hU hf hg w)
  rw [hWV] at CR
  rw [hWV] at CW
  rw [hOO] at CO
  rw [hF, hL] at CB
  obtain ⟨WB, hWB⟩ : ∃ A, rowL 32 (bS f) 32 = A := ⟨_, rfl⟩
  have RWB := Lib.hid (show IsRow 32 (bS f) WB by rw [← hWB]; exact isRow _ _)
  have CRB := Lib.hid (fun w => refBack_any T f hT hf w)
  rw [hWB] at CRB
  have e1 := rows_eq RW.out RW.out (fun _ _ => rfl) Try.underlying24
  have HT := Lib.hid hT
  have HU := Lib.hid hU
  have HE := Lib.hid hE
  have BE := Lib.hid bE
  have HZ := Lib.hid hZ
  have HV := Lib.hid hV
  have HI := Lib.hid hi
  have HJ := Lib.hid hj
  have HK := Lib.hid hk
  have HS := Lib.hid (In2.start w T U)
  have E1 := Lib.hid e1
  clear hZ hi hj hk hZ0 hY0 hV0 hY hV hT hU hE bE hWV hF hL hOO rW e1 hWB hg hf
  go_enter Try.func5, Try.ntmps5
  go_wp2_with fail
  refine (awake_yes _).mono ?_
  rintro e w1 ⟨rfl, hw1⟩
  have H1 := Lib.hid (HS.out.below hw1)
  clear HS hw1
  go_wp2_with (first
    | refine wpList_load_wanted (by rfl) 22 (.tmp 2) rfl w.heap.size rfl _ _ _ _ H1.out.2.1 Try.underlying22 (HJ.out _ HT.out.1) ?_
    | refine wpList_load_wanted (by rfl) 22 (.tmp 3) rfl (w.heap.size + 1) rfl _ _ _ _ H1.out.2.2 Try.underlying22 (HJ.out _ HU.out.1) ?_)
  refine (CW.out _).mono ?_
  rintro e w2 ⟨rfl, hw2⟩
  have h2 := H1.out.below hw2
  have A0 := Lib.hid (h2.2.1.alloc (.cells WV 24))
  have A1 := Lib.hid (h2.2.2.alloc (.cells WV 24))
  have A2 := Lib.hid (At.new w2 WV 24)
  have B2 := Lib.hid (h2.1.alloc h2.1.size (.cells WV 24))
  clear H1 hw2 h2
  go_wp2_with (refine wpList_store_row rfl 24 _ _ rfl w2.heap.size WV rfl rfl _ _ (heap_alloc_new _ _) (HI.out _ SW.out) (by rw [SW.out, HZ.out.1]) RW.out.2.1 ?_; rw [World.setRow_alloc_new]; (revert A0 A1 A2 B2; generalize w2.alloc (.cells WV 24) = w3; generalize w2.heap.size = c5; intro A0 A1 A2 B2))
  try simp only [Act.put]
  have e1 := E1.out
  refine mv_start fun hS => ?_
  refine mv_yield (i := 0) (d := 16) (.agg T) rfl rfl (by kernel_rfl) (by kernel_rfl) (by kernel_rfl) hS (y_load (by rfl) rfl rfl A0.out Try.underlying22 (HJ.out _ HT.out.1)) ?_
  simp only [Act.put, List.setIfInBounds_toArray, List.set_cons_zero, List.set_cons_succ]
  refine mv_yield (i := 2) (d := 18) (.agg T) rfl rfl (by kernel_rfl) (by kernel_rfl) (by kernel_rfl) hS (y_load (by rfl) rfl rfl A0.out Try.underlying22 (HJ.out _ HT.out.1)) ?_
  simp only [Act.put, List.setIfInBounds_toArray, List.set_cons_zero, List.set_cons_succ]
  refine mv_call (i := 1) (d := 17) (v := .bool true) #[.agg T] rfl rfl (by kernel_rfl) (by rfl) rfl hS enter_held (by kernel_rfl) (CH.out _) ?_
  clear hS
  rintro w' hS
  simp only [Act.put, List.setIfInBounds_toArray, List.set_cons_zero, List.set_cons_succ]
  refine mv_call (i := 3) (d := 19) (v := .bool true) #[.agg T] rfl rfl (by kernel_rfl) (by rfl) rfl hS enter_refHeld (by kernel_rfl) (RA.out _) ?_
  clear hS
  rintro w' hS
  simp only [Act.put, List.setIfInBounds_toArray, List.set_cons_zero, List.set_cons_succ]
  refine mv_yield (i := 4) (d := 20) (.bool false) rfl rfl (by kernel_rfl) (by kernel_rfl) (by kernel_rfl) hS (y_run (by rfl) fun _ => by go_simp) ?_
  simp only [Act.put, List.setIfInBounds_toArray, List.set_cons_zero, List.set_cons_succ]
  refine mv_yield (i := 5) (d := 21) (.bool false) rfl rfl (by kernel_rfl) (by kernel_rfl) (by kernel_rfl) hS (y_run (by rfl) fun _ => by rfl) ?_
  simp only [Act.put, List.setIfInBounds_toArray, List.set_cons_zero, List.set_cons_succ]
  refine mv_yield (i := 6) (d := 22) (.agg T) rfl rfl (by kernel_rfl) (by kernel_rfl) (by kernel_rfl) hS (y_load (by rfl) rfl rfl A0.out Try.underlying22 (HJ.out _ HT.out.1)) ?_
  simp only [Act.put, List.setIfInBounds_toArray, List.set_cons_zero, List.set_cons_succ]
  refine mv_call (i := 7) (d := 23) (v := .bool true) #[.agg T] rfl rfl (by kernel_rfl) (by rfl) rfl hS enter_refHeld (by kernel_rfl) (RA.out _) ?_
  clear hS
  rintro w' hS
  simp only [Act.put, List.setIfInBounds_toArray, List.set_cons_zero, List.set_cons_succ]
  refine mv_yield (i := 8) (d := 24) (.bool true) rfl rfl (by kernel_rfl) (by kernel_rfl) (by kernel_rfl) hS (y_run (by rfl) fun _ => by rfl) ?_
  simp only [Act.put, List.setIfInBounds_toArray, List.set_cons_zero, List.set_cons_succ]
  refine mv_yield (i := 9) (d := 25) (.agg U) rfl rfl (by kernel_rfl) (by kernel_rfl) (by kernel_rfl) hS (y_load (by rfl) rfl rfl A1.out Try.underlying22 (HJ.out _ HU.out.1)) ?_
  simp only [Act.put, List.setIfInBounds_toArray, List.set_cons_zero, List.set_cons_succ]
  refine mv_call (i := 10) (d := 26) (v := .bool true) #[.agg U] rfl rfl (by kernel_rfl) (by rfl) rfl hS enter_refHeld (by kernel_rfl) (RB.out _) ?_
  clear hS
  rintro w' hS
  simp only [Act.put, List.setIfInBounds_toArray, List.set_cons_zero, List.set_cons_succ]
  refine mv_yield (i := 11) (d := 27) (.bool true) rfl rfl (by kernel_rfl) (by kernel_rfl) (by kernel_rfl) hS (y_run (by rfl) fun _ => by rfl) ?_
  simp only [Act.put, List.setIfInBounds_toArray, List.set_cons_zero, List.set_cons_succ]
  refine mv_yield (i := 12) (d := 28) (.bool true) rfl rfl (by kernel_rfl) (by kernel_rfl) (by kernel_rfl) hS (y_run (by rfl) fun _ => by rfl) ?_
  simp only [Act.put, List.setIfInBounds_toArray, List.set_cons_zero, List.set_cons_succ]
  refine mv_yield (i := 13) (d := 29) (.agg WV) rfl rfl (by kernel_rfl) (by kernel_rfl) (by kernel_rfl) hS (y_load (by rfl) rfl rfl A2.out Try.underlying24 (HI.out _ SW.out)) ?_
  simp only [Act.put, List.setIfInBounds_toArray, List.set_cons_zero, List.set_cons_succ]
  refine mv_yield (i := 14) (d := 30) (.agg T) rfl rfl (by kernel_rfl) (by kernel_rfl) (by kernel_rfl) hS (y_load (by rfl) rfl rfl A0.out Try.underlying22 (HJ.out _ HT.out.1)) ?_
  simp only [Act.put, List.setIfInBounds_toArray, List.set_cons_zero, List.set_cons_succ]
  refine mv_yield (i := 15) (d := 31) (.agg U) rfl rfl (by kernel_rfl) (by kernel_rfl) (by kernel_rfl) hS (y_load (by rfl) rfl rfl A1.out Try.underlying22 (HJ.out _ HU.out.1)) ?_
  simp only [Act.put, List.setIfInBounds_toArray, List.set_cons_zero, List.set_cons_succ]
  refine mv_call (i := 16) (d := 32) (v := .agg WV) #[.agg T, .agg U] rfl rfl (by kernel_rfl) (by rfl) rfl hS enter_refWaves (by kernel_rfl) (CR.out _) ?_
  clear hS
  rintro w' hS
  simp only [Act.put, List.setIfInBounds_toArray, List.set_cons_zero, List.set_cons_succ]
  refine mv_yield (i := 17) (d := 33) (.bool false) rfl rfl (by kernel_rfl) (by kernel_rfl) (by kernel_rfl) hS (y_neq (b := true) (by rfl) rfl rfl rfl no_guard e1) ?_
  simp only [Act.put, List.setIfInBounds_toArray, List.set_cons_zero, List.set_cons_succ]
  refine mv_yield (i := 18) (d := 34) (.bool false) rfl rfl (by kernel_rfl) (by kernel_rfl) (by kernel_rfl) hS (y_run (by rfl) fun _ => by rfl) ?_
  simp only [Act.put, List.setIfInBounds_toArray, List.set_cons_zero, List.set_cons_succ]
  refine mv_yield (i := 19) (d := 35) (.bool false) rfl rfl (by kernel_rfl) (by kernel_rfl) (by kernel_rfl) hS (y_run (by rfl) fun _ => by rfl) ?_
  simp only [Act.put, List.setIfInBounds_toArray, List.set_cons_zero, List.set_cons_succ]
  refine mv_yield (i := 20) (d := 36) (.bool false) rfl rfl (by kernel_rfl) (by kernel_rfl) (by kernel_rfl) hS (y_run (by rfl) fun _ => by rfl) ?_
  simp only [Act.put, List.setIfInBounds_toArray, List.set_cons_zero, List.set_cons_succ]
  refine mv_yield (i := 21) (d := 37) (.agg T) rfl rfl (by kernel_rfl) (by kernel_rfl) (by kernel_rfl) hS (y_load (by rfl) rfl rfl A0.out Try.underlying22 (HJ.out _ HT.out.1)) ?_
  simp only [Act.put, List.setIfInBounds_toArray, List.set_cons_zero, List.set_cons_succ]
  refine mv_call (i := 22) (d := 38) (v := .bool true) #[.agg T] rfl rfl (by kernel_rfl) (by rfl) rfl hS enter_refHeld (by kernel_rfl) (RA.out _) ?_
  clear hS
  rintro w' hS
  simp only [Act.put, List.setIfInBounds_toArray, List.set_cons_zero, List.set_cons_succ]
  refine mv_yield (i := 23) (d := 39) (.bool true) rfl rfl (by kernel_rfl) (by kernel_rfl) (by kernel_rfl) hS (y_run (by rfl) fun _ => by rfl) ?_
  simp only [Act.put, List.setIfInBounds_toArray, List.set_cons_zero, List.set_cons_succ]
  refine mv_yield (i := 24) (d := 40) (.agg U) rfl rfl (by kernel_rfl) (by kernel_rfl) (by kernel_rfl) hS (y_load (by rfl) rfl rfl A1.out Try.underlying22 (HJ.out _ HU.out.1)) ?_
  simp only [Act.put, List.setIfInBounds_toArray, List.set_cons_zero, List.set_cons_succ]
  refine mv_call (i := 25) (d := 41) (v := .bool true) #[.agg U] rfl rfl (by kernel_rfl) (by rfl) rfl hS enter_refHeld (by kernel_rfl) (RB.out _) ?_
  clear hS
  rintro w' hS
  simp only [Act.put, List.setIfInBounds_toArray, List.set_cons_zero, List.set_cons_succ]
  refine mv_yield (i := 26) (d := 42) (.bool true) rfl rfl (by kernel_rfl) (by kernel_rfl) (by kernel_rfl) hS (y_run (by rfl) fun _ => by rfl) ?_
  simp only [Act.put, List.setIfInBounds_toArray, List.set_cons_zero, List.set_cons_succ]
  refine mv_yield (i := 27) (d := 43) (.bool false) rfl rfl (by kernel_rfl) (by kernel_rfl) (by kernel_rfl) hS (y_run (by rfl) fun _ => by go_simp) ?_
  simp only [Act.put, List.setIfInBounds_toArray, List.set_cons_zero, List.set_cons_succ]
  refine mv_yield (i := 28) (d := 44) (.bool false) rfl rfl (by kernel_rfl) (by kernel_rfl) (by kernel_rfl) hS (y_run (by rfl) fun _ => by rfl) ?_
  simp only [Act.put, List.setIfInBounds_toArray, List.set_cons_zero, List.set_cons_succ]
  refine mv_yield (i := 29) (d := 45) undef rfl rfl (by kernel_rfl) (by kernel_rfl) (by kernel_rfl) hS (y_skip (by rfl)) ?_
  simp only [Act.put, List.setIfInBounds_toArray, List.set_cons_zero, List.set_cons_succ]
  refine mv_yield (i := 30) (d := 46) undef rfl rfl (by kernel_rfl) (by kernel_rfl) (by kernel_rfl) hS (y_skip (by rfl)) ?_
  simp only [Act.put, List.setIfInBounds_toArray, List.set_cons_zero, List.set_cons_succ]
  refine mv_yield (i := 31) (d := 47) undef rfl rfl (by kernel_rfl) (by kernel_rfl) (by kernel_rfl) hS (y_skip (by rfl)) ?_
  simp only [Act.put, List.setIfInBounds_toArray, List.set_cons_zero, List.set_cons_succ]
  refine mv_yield (i := 32) (d := 48) (.bool false) rfl rfl (by kernel_rfl) (by kernel_rfl) (by kernel_rfl) hS (y_run (by rfl) fun _ => by rfl) ?_
  simp only [Act.put, List.setIfInBounds_toArray, List.set_cons_zero, List.set_cons_succ]
  refine mv_yield (i := 33) (d := 49) (.bool false) rfl rfl (by kernel_rfl) (by kernel_rfl) (by kernel_rfl) hS (y_run (by rfl) fun _ => by rfl) ?_
  simp only [Act.put, List.setIfInBounds_toArray, List.set_cons_zero, List.set_cons_succ]
  refine mv_done (by kernel_rfl) ?_
  have P0 := Lib.hid (A0.out.below hS A0.out.lt)
  have P1 := Lib.hid (A1.out.below hS A1.out.lt)
  have B4 := Lib.hid (below_trans B2.out hS B2.out.size)
  clear hS A0 A1 A2 B2 e1 E1
  go_wp2_with (refine wpList_load_wanted (by rfl) 22 (.tmp 2) rfl w.heap.size rfl _ _ _ _ P0.out Try.underlying22 (HJ.out _ HT.out.1) ?_)
  refine (CB.out _).mono ?_
  rintro e w5 ⟨rfl, hw5⟩
  have Q0 := Lib.hid (two_keep (Z := Z) (F := F) (L := L) (P0.out.below hw5 P0.out.lt))
  have Q1 := Lib.hid (two_keep (Z := Z) (F := F) (L := L) (P1.out.below hw5 P1.out.lt))
  have Q6 := Lib.hid (two_first (w := w5) (Z := Z) (F := F) (L := L))
  have Q7 := Lib.hid (two_last (w := w5) (Z := Z) (F := F) (L := L))
  have B5 := Lib.hid (two_below (Z := Z) (F := F) (L := L) (below_trans B4.out hw5 B4.out.size))
  clear P0 P1 B4 hw5
  go_wp2_with (first
    | refine wpList_store_row rfl 24 (.tmp 6) _ rfl w5.heap.size F rfl rfl 24 Z (heap_alloc2_old w5 (.cells Z 24) (.cells Z 24)) (HI.out _ RF.out.1) (by rw [RF.out.1, HZ.out.1]) RF.out.2.1 ?_
    | (refine wpList_store_row rfl 24 (.tmp 7) _ rfl (w5.heap.size + 1) L rfl rfl 24 Z ((Go.setRow_other _ _ _ _ (by omega)).trans (heap_alloc2_new w5 (.cells Z 24) (.cells Z 24))) (HI.out _ RL.out.1) (by rw [RL.out.1, HZ.out.1]) RL.out.2.1 ?_
       revert Q0 Q1 Q6 Q7 B5
       generalize (((w5.alloc (.cells Z 24)).alloc (.cells Z 24)).setRow w5.heap.size F).setRow (w5.heap.size + 1) L = w6
       generalize w5.heap.size + 1 = c7
       generalize w5.heap.size = c6
       intro Q0 Q1 Q6 Q7 B5)
    | refine wpList_load_wanted (by rfl) 22 (.tmp 2) rfl w.heap.size rfl _ _ _ _ (Q0.out.alloc _) Try.underlying22 (HJ.out _ HT.out.1) ?_)
  refine (RA.out _).mono ?_
  rintro e w7 ⟨rfl, hw7⟩
  have P0 := Lib.hid ((Q0.out.alloc (.cells Z32 35)).below hw7 (Q0.out.alloc (.cells Z32 35)).lt)
  have P1 := Lib.hid ((Q1.out.alloc (.cells Z32 35)).below hw7 (Q1.out.alloc (.cells Z32 35)).lt)
  have P6 := Lib.hid ((Q6.out.alloc (.cells Z32 35)).below hw7 (Q6.out.alloc (.cells Z32 35)).lt)
  have P7 := Lib.hid ((Q7.out.alloc (.cells Z32 35)).below hw7 (Q7.out.alloc (.cells Z32 35)).lt)
  have n8 := At.new w6 Z32 35
  have P8 := Lib.hid (n8.below hw7 n8.lt)
  have B7 := Lib.hid (below_trans (B5.out.alloc B5.out.size (.cells Z32 35)) hw7 (by have := B5.out.size; simp; omega))
  have d6 := Q6.out.lt
  have d7 := Q7.out.lt
  have d0 := Q0.out.lt
  have d1 := Q1.out.lt
  have hw8 : w.heap.size ≤ w6.heap.size := B5.out.size
  clear Q0 Q1 Q6 Q7 B5 hw7 n8
  revert d6 d7 d0 d1 hw8 P8
  generalize w6.heap.size = c8
  intro P8 d6 d7 d0 d1 hw8
  go_wp2_with (refine wpList_load_wanted (by rfl) 22 (.tmp 2) rfl w.heap.size rfl _ _ _ _ P0.out Try.underlying22 (HJ.out _ HT.out.1) ?_)
  refine (CRB.out _).mono ?_
  rintro e w8 ⟨rfl, hw9⟩
  have q8 := P8.out.below hw9 P8.out.lt
  have Q0 := Lib.hid ((P0.out.below hw9 P0.out.lt).setRow_other (C := WB) (show w.heap.size ≠ c8 by omega))
  have Q1 := Lib.hid ((P1.out.below hw9 P1.out.lt).setRow_other (C := WB) (show w.heap.size + 1 ≠ c8 by omega))
  have Q6 := Lib.hid ((P6.out.below hw9 P6.out.lt).setRow_other (C := WB) (show c6 ≠ c8 by omega))
  have Q7 := Lib.hid ((P7.out.below hw9 P7.out.lt).setRow_other (C := WB) (show c7 ≠ c8 by omega))
  have Q8 := Lib.hid (q8.setRow (C := WB))
  have B8 := Lib.hid (below_setRow' (below_trans B7.out hw9 B7.out.size) hw8 WB)
  have O8 := Lib.hid q8
  clear P0 P1 P6 P7 P8 B7 hw9 q8 d6 d7 d0 d1
  go_wp2_with (first
    | (refine wpList_store_row rfl 35 (.tmp 8) _ rfl c8 WB rfl rfl 35 Z32 O8.out (HK.out _ RWB.out.1) (by rw [RWB.out.1, HV.out.1]) RWB.out.2.1 ?_
       revert Q0 Q1 Q6 Q7 Q8 B8
       generalize w8.setRow c8 WB = w9
       intro Q0 Q1 Q6 Q7 Q8 B8)
    | refine wpList_load_wanted (by rfl) 22 (.tmp 2) rfl w.heap.size rfl _ _ _ _ Q0.out Try.underlying22 (HJ.out _ HT.out.1) ?_
    | refine wpList_load_wanted (by rfl) 22 (.tmp 3) rfl (w.heap.size + 1) rfl _ _ _ _ Q1.out Try.underlying22 (HJ.out _ HU.out.1) ?_)
  refine (CO.out _).mono ?_
  rintro e w10 ⟨rfl, hw10⟩
  have b10 := below_trans B8.out hw10 B8.out.size
  have hstart : PlI w (w10.alloc (.cells OO 24)) T U F L WB OO c6 c7 c8 w10.heap.size :=
    ⟨b10.alloc b10.size _, (Q0.out.below hw10 Q0.out.lt).alloc _, (Q1.out.below hw10 Q1.out.lt).alloc _, (Q6.out.below hw10 Q6.out.lt).alloc _, (Q7.out.below hw10 Q7.out.lt).alloc _, (Q8.out.below hw10 Q8.out.lt).alloc _, At.new _ _ _⟩
  have HSt := Lib.hid hstart
  clear Q0 Q1 Q6 Q7 Q8 B8 hw10 b10 hstart hw8 O8
  go_wp2_with (refine wpList_store_row rfl 24 _ _ rfl w10.heap.size OO rfl rfl _ _ (heap_alloc_new _ _) (HI.out _ RO.out.1) (by rw [RO.out.1, HZ.out.1]) RO.out.2.1 ?_; rw [World.setRow_alloc_new])
  revert HSt
  generalize w10.alloc (.cells OO 24) = W
  generalize w10.heap.size = c9
  intro HSt
  clear CW CH RA CB CO RB CR CRB
  go_loopw [10] (fun i w' => ∃ k : Nat, k ≤ 16 ∧ i = .int .i64 k ∧ PlI w w' T U F L WB OO c6 c7 c8 c9) (fun i _ => 16 - (intOf i).toNat)
  case atStart => exact ⟨0, Nat.zero_le _, rfl, HSt.out⟩
  case round =>
    obtain ⟨k, hk, rfl, hinv⟩ := hrel
    clear HSt
    have HB := Lib.hid hinv
    by_cases hk16 : k < 16
    · obtain ⟨hb, q0, q1, q6, q7, q8, q9⟩ := hinv
      have x0 := HT.out.cell q0 k hk16
      have x1 := HU.out.cell q1 k hk16
      have x6 := RF.out.cell q6 k hk16
      have x7 := RL.out.cell q7 k hk16
      have x8 := RWB.out.cell q8 k (by omega)
      have x8' := RWB.out.cell q8 (16 + k) (by omega)
      have x9 := RO.out.cell q9 k hk16
      obtain ⟨x, hx⟩ : ∃ x, f k = x := ⟨_, rfl⟩
      obtain ⟨y, hy'⟩ : ∃ x, g k = x := ⟨_, rfl⟩
      obtain ⟨a, ha⟩ : ∃ p, ct x = p := ⟨_, rfl⟩
      obtain ⟨b, hb'⟩ : ∃ q, ct y = q := ⟨_, rfl⟩
      obtain ⟨r, hr⟩ : ∃ r, ct (a + b) = r := ⟨_, rfl⟩
      obtain ⟨a1, a2⟩ := ct_bd x
      obtain ⟨b1, b2⟩ := ct_bd y
      rw [ha] at a1 a2
      rw [hb'] at b1 b2
      rw [show ovS f g k = r by unfold ovS; rw [hx, hy', ha, hb', hr]] at x9
      rw [hx] at x0
      rw [hy'] at x1
      generalize bS f k = p at *
      generalize bS f (16 + k) = q at *
      have KA := Lib.hid ha
      have KB := Lib.hid hb'
      have KR := Lib.hid hr
      have k1 : (k : Int) < 16 := by omega
      have k2 : (k : Int) < 32 := by omega
      have k3 : 16 + (k : Int) < 32 := by omega
      have k4 : (0 : Int) ≤ 16 + (k : Int) := by omega
      have hm : IntKind.i64.wrap (a + b) = a + b := IntWalk.i64_in _ (by omega)
      have hn : IntKind.i64.wrap (16 + (k : Int)) = 16 + (k : Int) := IntWalk.i64_in _ (by omega)
      have ht : (16 + (k : Int)).toNat = 16 + k := by omega
      clear q0 q1 q6 q7 q8 q9 hb hx hy' ha hb' hr
      go_wp2_with fail
      go_quiet (first
        | (go_at_call 18; with_reducible exact quiet_int (refCut_as x a _ KA.out))
        | (go_at_call 18; with_reducible exact quiet_int (refCut_as y b _ KB.out))
        | (go_at_call 18; with_reducible exact quiet_int (refCut_as (a + b) r _ KR.out)))
      clear hm hn ht
      go_wp2
      go_roundw
      case rel => exact ⟨k + 1, by omega, by go_num, below_drewN HB.out.1 _, HB.out.2⟩
      case measure => simp [intOf]; omega
    · go_wp2
      go_ret
      exact ⟨rfl, hinv.1⟩

end Go.Proofs.Ytabenllglldkkaa.Md
