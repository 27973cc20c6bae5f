/- Texts of the walk, one behind the other. -/
import Derived.Test.YtinbdkneakblfaaStatePlaysM34
import Derived.Test.YtinbdkneakblfaaStatePlaysM54

section
/- StatePlays. Written by g31.py. -/
set_option maxRecDepth 100000
set_option linter.unusedVariables false
namespace Go.Proofs.Ytinbdkneakblfaa.Sta
open Go.RowKit Go.Proofs.Ytinbdkneakblfaa.Row Go.Proofs.Ytinbdkneakblfaa.Md Go.Proofs.Ytinbdkneakblfaa.Tl

theorem ret_as {fn : FuncId} {args : Array Value} {R Q : Array Value} {h g : Nat → Int} {w : World} (H : Calls Try.prog fn args w (RetNx w h g)) (hR : IsRow 16 h R) (hQ : IsRow 38 g Q) :
    Calls Try.prog fn args w fun e w' => e = .returned (.tuple #[.agg R, .agg Q]) ∧ Below w.heap.size w w' := by
  refine H.mono ?_
  rintro e w' ⟨⟨R', Q', rfl, h1, h2⟩, hb⟩
  obtain rfl := h1.eq hR fun _ _ => rfl
  obtain rfl := h2.eq hQ fun _ _ => rfl
  exact ⟨rfl, hb⟩

set_option maxHeartbeats 2000000 in
theorem statePlays_no (T V U : Array Value) (f v u : Nat → Int) (z : Int) (hT : IsRow 38 f T) (hV : IsRow 4 v V) (hU : IsRow 16 u U) (hr : ¬ Rt f) (w : World) :
    Calls Try.prog 6 #[.agg T, .agg V, .agg U, .int .i64 z] w fun e w' => e = .returned (.bool true) ∧ Below w.heap.size w w' := by
  obtain ⟨Zp, hZp, _, hzp, hip⟩ := zero_p
  obtain ⟨Zb, hZb, _, hzb, hib⟩ := zero_b
  obtain ⟨_, _, _, _, hi4⟩ := zero_4
  obtain ⟨Za, hZa, _, hza, hia⟩ := zero_a
  obtain ⟨Zr, hZr, _, hzr, hir⟩ := zero_r
  have hC := next_no T V U f v u z hT hV hU (.inl hr)
  obtain ⟨R, hR, bR⟩ := built_b
  obtain ⟨Q, hQ, bQ⟩ := built_0 isSt_p
  have HC := Lib.hid (fun w => next_as hC hR hQ w)
  have HRI := Lib.hid (fun w => refRight_any T f false w hT (by simp [hr]))
  have HBY := Lib.hid (fun w => bytes_no T f w hT hr)
  have HRG := Lib.hid (fun w => right_no T f w hT hr)
  have e1 := rows_eq hR hR (fun _ _ => rfl) Try.underlying30
  have e2 := st_eq_p hQ hQ (fun _ _ => rfl)
  have HR := Lib.hid hR
  have HQ := Lib.hid hQ
  have HIP := Lib.hid hip
  have HIB := Lib.hid hib
  have HI4 := Lib.hid hi4
  have HIA := Lib.hid hia
  have HIR := Lib.hid hir
  have HT := Lib.hid hT
  have HV := Lib.hid hV
  have HU := Lib.hid hU
  have HZB := Lib.hid hZb.1
  have HZP := Lib.hid hZp.1
  have HZA := Lib.hid hZa.1
  have HZR := Lib.hid hZr.1
  have HBR := Lib.hid bR
  have HBQ := Lib.hid bQ
  have HW := Lib.hid (Tri.start w T V U 25 23 22)
  clear hT hV hU hip hib hi4 hia hir hZp hZb hZa hZr hR hQ hC bR bQ hr
  go_enter Try.func6, Try.ntmps6
  go_wp2_with fail
  revert HW
  generalize World.alloc _ _ = W
  intro HW
  refine (awake_as W).mono ?_
  rintro e W1 ⟨rfl, hb⟩
  replace HW := Lib.hid (HW.out.next hb)
  clear hb W
  go_wp2_with (refine wpList_load_all (by rfl) 25 _ rfl w.heap.size rfl HT.out HW.out.2.1 Try.underlying25 rfl HIR.out ?_)
  refine (HRI.out W1).mono ?_
  rintro e W ⟨rfl, hb⟩
  replace HW := Lib.hid (HW.out.next hb)
  clear hb W1
  go_wp2_with (refine wpList_load_all (by rfl) 25 _ rfl w.heap.size rfl HT.out HW.out.2.1 Try.underlying25 rfl HIR.out ?_)
  refine (of_as T f W HT.out).mono ?_
  rintro e W1 ⟨rfl, hb⟩
  replace HW := Lib.hid (HW.out.next hb)
  clear hb W
  go_wp2_with fail
  refine (HBY.out W1).mono ?_
  rintro e W ⟨rfl, hb⟩
  replace HW := Lib.hid (HW.out.next hb)
  clear hb W1
  rw [show (⟨([] : List UInt8).toArray⟩ : ByteArray) = ⟨#[]⟩ from rfl]
  go_wp2_with (refine wpList_load_all (by rfl) 25 _ rfl w.heap.size rfl HT.out HW.out.2.1 Try.underlying25 rfl HIR.out ?_)
  refine (of_as T f W HT.out).mono ?_
  rintro e W1 ⟨rfl, hb⟩
  replace HW := Lib.hid (HW.out.next hb)
  clear hb W
  go_wp2_with fail
  refine (HRG.out W1).mono ?_
  rintro e W ⟨rfl, hb⟩
  replace HW := Lib.hid (HW.out.next hb)
  clear hb W1
  go_wp2_with fail
  obtain ⟨W1, hW1⟩ : ∃ W1, W = W1 := ⟨_, rfl⟩
  rw [hW1] at HW ⊢
  clear hW1 W
  refine mv_start fun hS => ?_
  refine mv_yield (i := 0) (d := 57) (.agg T) rfl rfl (by kernel_rfl) (by kernel_rfl) (by kernel_rfl) hS (y_load_part (l := 0) (by rfl) rfl rfl HT.out (fun w' h => (HW.out.2.1).below h (HW.out.2.1).lt) HT.out (by omega) (fun i _ => by rw [Nat.zero_add]) Try.underlying25 rfl (HIR.out _ HT.out.1)) ?_
  simp only [Act.put, List.setIfInBounds_toArray, List.set_cons_zero, List.set_cons_succ]
  refine mv_yield (i := 2) (d := 59) (.agg V) rfl rfl (by kernel_rfl) (by kernel_rfl) (by kernel_rfl) hS (y_load_part (l := 0) (by rfl) rfl rfl HV.out (fun w' h => (HW.out.2.2.1).below h (HW.out.2.2.1).lt) HV.out (by omega) (fun i _ => by rw [Nat.zero_add]) Try.underlying23 rfl (HI4.out _ HV.out.1)) ?_
  simp only [Act.put, List.setIfInBounds_toArray, List.set_cons_zero, List.set_cons_succ]
  refine mv_yield (i := 3) (d := 60) (.agg U) rfl rfl (by kernel_rfl) (by kernel_rfl) (by kernel_rfl) hS (y_load_part (l := 0) (by rfl) rfl rfl HU.out (fun w' h => (HW.out.2.2.2).below h (HW.out.2.2.2).lt) HU.out (by omega) (fun i _ => by rw [Nat.zero_add]) Try.underlying22 rfl (HIA.out _ HU.out.1)) ?_
  simp only [Act.put, List.setIfInBounds_toArray, List.set_cons_zero, List.set_cons_succ]
  refine mv_yield (i := 4) (d := 61) (.int .i64 z) rfl rfl (by kernel_rfl) (by kernel_rfl) (by kernel_rfl) hS (y_run (by rfl) fun _ => by rfl) ?_
  simp only [Act.put, List.setIfInBounds_toArray, List.set_cons_zero, List.set_cons_succ]
  refine parD0 (fuel := 2) [1, 5, 6, 7, 8, 9, 10] [1, 5, 6, 7, 9, 10] 8 (fun i => decide (9 ≤ i)) (fun i => if i = 1 then .agg T else if i = 5 then .tuple #[.agg R, .agg Q] else if i = 6 then .tuple #[.agg R, .agg Q] else if i = 7 then .agg R else .agg Q) (fun i => if i = 9 then Zb else Zp) (fun i => if i = 9 then 30 else 32) #[true, true, true, true, true, true, true, true, false, true, true, false, false] #[true, true, true, true, true, true, true, true, true, true, true, false, false] _ rfl (by decide) (by decide) (by decide) rfl (by kernel_rfl) (by kernel_rfl) (by kernel_rfl) (by decide) rfl rfl rfl (by kernel_rfl) (by kernel_rfl) (by kernel_rfl) (by kernel_rfl) (by kernel_rfl) (by kernel_rfl) hS ?_ ?_ ?_
  · intro i hi
    simp only [List.mem_cons, List.not_mem_nil, or_false] at hi
    rcases hi with rfl | rfl | rfl | rfl | rfl | rfl | rfl
    · exact ⟨_, rfl, fun D val w' hw' hD hv => st_call (isA := fun i => decide (9 ≤ i)) (V := fun i => if i = 1 then .agg T else if i = 5 then .tuple #[.agg R, .agg Q] else if i = 6 then .tuple #[.agg R, .agg Q] else if i = 7 then .agg R else .agg Q) (Zc := fun i => if i = 9 then Zb else Zp) (ty := fun i => if i = 9 then 30 else 32) (i := 1) #[.agg T] rfl rfl rfl enter_of (map1 (Eq.trans (part_other _ _ (by kernel_rfl)) rfl)) (of_as T f _ HT.out)⟩
    · exact ⟨_, rfl, fun D val w' hw' hD hv => st_call (isA := fun i => decide (9 ≤ i)) (V := fun i => if i = 1 then .agg T else if i = 5 then .tuple #[.agg R, .agg Q] else if i = 6 then .tuple #[.agg R, .agg Q] else if i = 7 then .agg R else .agg Q) (Zc := fun i => if i = 9 then Zb else Zp) (ty := fun i => if i = 9 then 30 else 32) (i := 5) #[.agg T, .agg V, .agg U, .int .i64 z] rfl rfl rfl enter_next (map4 (Eq.trans (part_eval 1 rfl (hD 1 (by decide +kernel) (by decide)) _ _ rfl (by kernel_rfl) (by kernel_rfl)) (hv 1 (by decide) (hD 1 (by decide +kernel) (by decide)) rfl)) (Eq.trans (part_other _ _ (by kernel_rfl)) rfl) (Eq.trans (part_other _ _ (by kernel_rfl)) rfl) (Eq.trans (part_other _ _ (by kernel_rfl)) rfl)) (HC.out _)⟩
    · exact ⟨_, rfl, fun D val w' hw' hD hv => st_run (isA := fun i => decide (9 ≤ i)) (V := fun i => if i = 1 then .agg T else if i = 5 then .tuple #[.agg R, .agg Q] else if i = 6 then .tuple #[.agg R, .agg Q] else if i = 7 then .agg R else .agg Q) (Zc := fun i => if i = 9 then Zb else Zp) (ty := fun i => if i = 9 then 30 else 32) (i := 6) (run_move rfl (Eq.trans (part_eval 5 rfl (hD 5 (by decide +kernel) (by decide)) _ _ rfl (by kernel_rfl) (by kernel_rfl)) (hv 5 (by decide) (hD 5 (by decide +kernel) (by decide)) rfl))) rfl rfl⟩
    · exact ⟨_, rfl, fun D val w' hw' hD hv => st_run (isA := fun i => decide (9 ≤ i)) (V := fun i => if i = 1 then .agg T else if i = 5 then .tuple #[.agg R, .agg Q] else if i = 6 then .tuple #[.agg R, .agg Q] else if i = 7 then .agg R else .agg Q) (Zc := fun i => if i = 9 then Zb else Zp) (ty := fun i => if i = 9 then 30 else 32) (i := 7) (run_extract rfl (Eq.trans (part_eval 6 rfl (hD 6 (by decide +kernel) (by decide)) _ _ rfl (by kernel_rfl) (by kernel_rfl)) (hv 6 (by decide) (hD 6 (by decide +kernel) (by decide)) rfl)) rfl) rfl rfl⟩
    · exact ⟨_, rfl, fun D val w' hw' hD hv => st_run (isA := fun i => decide (9 ≤ i)) (V := fun i => if i = 1 then .agg T else if i = 5 then .tuple #[.agg R, .agg Q] else if i = 6 then .tuple #[.agg R, .agg Q] else if i = 7 then .agg R else .agg Q) (Zc := fun i => if i = 9 then Zb else Zp) (ty := fun i => if i = 9 then 30 else 32) (i := 8) (run_extract rfl (Eq.trans (part_eval 6 rfl (hD 6 (by decide +kernel) (by decide)) _ _ rfl (by kernel_rfl) (by kernel_rfl)) (hv 6 (by decide) (hD 6 (by decide +kernel) (by decide)) rfl)) rfl) rfl rfl⟩
    · exact ⟨_, rfl, fun D val w' hw' hD hv => st_alloc (isA := fun i => decide (9 ≤ i)) (V := fun i => if i = 1 then .agg T else if i = 5 then .tuple #[.agg R, .agg Q] else if i = 6 then .tuple #[.agg R, .agg Q] else if i = 7 then .agg R else .agg Q) (Zc := fun i => if i = 9 then Zb else Zp) (ty := fun i => if i = 9 then 30 else 32) (i := 9) rfl rfl rfl rfl hzb⟩
    · exact ⟨_, rfl, fun D val w' hw' hD hv => st_alloc (isA := fun i => decide (9 ≤ i)) (V := fun i => if i = 1 then .agg T else if i = 5 then .tuple #[.agg R, .agg Q] else if i = 6 then .tuple #[.agg R, .agg Q] else if i = 7 then .agg R else .agg Q) (Zc := fun i => if i = 9 then Zb else Zp) (ty := fun i => if i = 9 then 30 else 32) (i := 10) rfl rfl rfl rfl hzp⟩
  · exact ⟨_, rfl, fun D val hD hv => y_of_run (by rfl) (fun w' => run_extract rfl (Eq.trans (part_eval 6 rfl (hD 6 (by decide +kernel) (by decide)) _ _ rfl (by kernel_rfl) (by kernel_rfl)) (hv 6 (by decide) (hD 6 (by decide +kernel) (by decide)) rfl)) rfl)⟩
  clear hS
  intro val w' hS hY hV
  have v1 : val 1 = .agg T := (hY 1 (by simp)).1 rfl
  have v5 : val 5 = .tuple #[.agg R, .agg Q] := (hY 5 (by simp)).1 rfl
  have v6 : val 6 = .tuple #[.agg R, .agg Q] := (hY 6 (by simp)).1 rfl
  have v7 : val 7 = .agg R := (hY 7 (by simp)).1 rfl
  have v8 : val 8 = .agg Q := (hY 8 (by simp)).1 rfl
  obtain ⟨b9, e9, a9, g9⟩ : ∃ b, val 9 = .pointer (some ⟨b, 0, none⟩) ∧ At w' b Zb 30 ∧ W1.heap.size ≤ b := (hY 9 (by simp)).2 rfl
  obtain ⟨b10, e10, a10, g10⟩ : ∃ b, val 10 = .pointer (some ⟨b, 0, none⟩) ∧ At w' b Zp 32 ∧ W1.heap.size ≤ b := (hY 10 (by simp)).2 rfl
  have n12 : b9 ≠ b10 := fun e => hV 9 (by simp) 10 (by simp) (by decide) rfl rfl (by rw [e9, e10, e])
  show wpAnyH _ _ _ _ _ _ _ (Act.put (Act.put (Act.put (Act.put (Act.put (Act.put (Act.put _ (some 58) (val 1)) (some 62) (val 5)) (some 56) (val 6)) (some 63) (val 7)) (some 64) (val 8)) (some 12) (val 9)) (some 13) (val 10)) _
  rw [v1, v5, v6, v7, v8, e9, e10]
  simp only [Act.put, List.setIfInBounds_toArray, List.set_cons_zero, List.set_cons_succ]
  clear hY hV v1 v5 v6 v7 v8 e9 e10
  refine mv_store (i := 11) b9 R _ rfl rfl (by kernel_rfl) (by rfl) rfl rfl rfl a9 (by rw [HZB.out, HR.out.1]) HR.out.2.1 (HIB.out _ HR.out.1) g9 hS (fun hS1 => ?_)
  refine mv_store (i := 12) b10 Q _ rfl rfl (by kernel_rfl) (by rfl) rfl rfl rfl (a10.setRow_other (Ne.symm n12)) (by rw [HZP.out, HQ.out.1]) HQ.out.2.1 (HIP.out _ HQ.out.1) g10 hS1 (fun hS2 => ?_)
  refine mv_done (by kernel_rfl) ?_
  have PX := Lib.hid ((a9.setRow (C := R)).setRow_other (C := Q) n12)
  have PY := Lib.hid ((a10.setRow_other (C := R) (Ne.symm n12)).setRow (C := Q))
  replace HW := Lib.hid (HW.out.next hS2)
  clear hS hS1 hS2 a9 a10 g9 g10 n12 HC
  revert HW PX PY
  generalize World.setRow _ _ _ = W2
  intro PX PY HW
  clear w' W1
  obtain ⟨W3, hW3⟩ : ∃ W3, W2 = W3 := ⟨_, rfl⟩
  rw [hW3] at HW PX PY ⊢
  clear hW3 W2
  go_wp2_with (first
    | refine wpList_load_all (by rfl) 30 _ rfl b9 rfl HR.out PX.out Try.underlying30 rfl HIB.out ?_
    | refine wpList_load_all (by rfl) 32 _ rfl b10 rfl HQ.out PY.out Try.underlying32 rfl HIP.out ?_
    | refine wpList_build_parts (by rfl) 32 [] rfl _ rfl HBQ.out ?_
    | refine wpList_build_parts (by rfl) 30 [] rfl _ rfl HBR.out ?_)
  go_ret
  exact ⟨rfl, HW.out.1⟩

set_option maxHeartbeats 2000000 in
theorem statePlays_half (T V U : Array Value) (f v u : Nat → Int) (z : Int) (hT : IsRow 38 f T) (hV : IsRow 4 v V) (hU : IsRow 16 u U) (hr : Rt f) (hr2 : ¬ Rt (thF v u z)) (w : World) :
    Calls Try.prog 6 #[.agg T, .agg V, .agg U, .int .i64 z] w fun e w' => e = .returned (.bool true) ∧ Below w.heap.size w w' := by
  obtain ⟨Zp, hZp, _, hzp, hip⟩ := zero_p
  obtain ⟨Zb, hZb, _, hzb, hib⟩ := zero_b
  obtain ⟨_, _, _, _, hi4⟩ := zero_4
  obtain ⟨Za, hZa, _, hza, hia⟩ := zero_a
  obtain ⟨Zr, hZr, _, hzr, hir⟩ := zero_r
  have hC := next_no T V U f v u z hT hV hU (.inr ⟨hr, hr2⟩)
  obtain ⟨R, hR, bR⟩ := built_b
  obtain ⟨Q, hQ, bQ⟩ := built_0 isSt_p
  have HC := Lib.hid (fun w => next_as hC hR hQ w)
  have HRI := Lib.hid (fun w => refRight_any T f true w hT (by simp [hr]))
  obtain ⟨P, hP, bP⟩ := built_3 isSt_r hV hU z
  have HRT := Lib.hid (fun w => refRight_any P _ false w hP (by unfold thF at hr2; simp [hr2]))
  have HBY := Lib.hid (fun w => bytes_yes T f w hT hr)
  have HRB := Lib.hid (fun w => refBytes_as T f hT hr w)
  have HRG := Lib.hid (fun w => right_yes T f w hT hr)
  have HBP := Lib.hid bP
  have e1 := rows_eq hR hR (fun _ _ => rfl) Try.underlying30
  have e2 := st_eq_p hQ hQ (fun _ _ => rfl)
  have HR := Lib.hid hR
  have HQ := Lib.hid hQ
  have HIP := Lib.hid hip
  have HIB := Lib.hid hib
  have HI4 := Lib.hid hi4
  have HIA := Lib.hid hia
  have HIR := Lib.hid hir
  have HT := Lib.hid hT
  have HV := Lib.hid hV
  have HU := Lib.hid hU
  have HZB := Lib.hid hZb.1
  have HZP := Lib.hid hZp.1
  have HZA := Lib.hid hZa.1
  have HZR := Lib.hid hZr.1
  have HBR := Lib.hid bR
  have HBQ := Lib.hid bQ
  have HW := Lib.hid (Tri.start w T V U 25 23 22)
  clear hT hV hU hip hib hi4 hia hir hZp hZb hZa hZr hR hQ hC hP bP bR bQ hr hr2
  go_enter Try.func6, Try.ntmps6
  go_wp2_with fail
  revert HW
  generalize World.alloc _ _ = W
  intro HW
  refine (awake_as W).mono ?_
  rintro e W1 ⟨rfl, hb⟩
  replace HW := Lib.hid (HW.out.next hb)
  clear hb W
  go_wp2_with (refine wpList_load_all (by rfl) 25 _ rfl w.heap.size rfl HT.out HW.out.2.1 Try.underlying25 rfl HIR.out ?_)
  refine (HRI.out W1).mono ?_
  rintro e W ⟨rfl, hb⟩
  replace HW := Lib.hid (HW.out.next hb)
  clear hb W1
  go_wp2_with (refine wpList_load_all (by rfl) 25 _ rfl w.heap.size rfl HT.out HW.out.2.1 Try.underlying25 rfl HIR.out ?_)
  refine (of_as T f W HT.out).mono ?_
  rintro e W1 ⟨rfl, hb⟩
  replace HW := Lib.hid (HW.out.next hb)
  clear hb W
  go_wp2_with fail
  refine (HBY.out W1).mono ?_
  rintro e W ⟨rfl, hb⟩
  replace HW := Lib.hid (HW.out.next hb)
  clear hb W1
  obtain ⟨s, hs⟩ : ∃ s, (⟨(stL f).toArray⟩ : ByteArray) = s := ⟨_, rfl⟩
  rw [hs] at HRB
  rw [hs]
  clear hs
  have hss : (s.toList == s.toList) = true := by simp
  go_wp2_with (refine wpList_load_all (by rfl) 25 _ rfl w.heap.size rfl HT.out HW.out.2.1 Try.underlying25 rfl HIR.out ?_)
  refine (of_as T f W HT.out).mono ?_
  rintro e W1 ⟨rfl, hb⟩
  replace HW := Lib.hid (HW.out.next hb)
  clear hb W
  go_wp2_with fail
  refine (HRG.out W1).mono ?_
  rintro e W ⟨rfl, hb⟩
  replace HW := Lib.hid (HW.out.next hb)
  clear hb W1
  go_wp2_with (refine wpList_load_all (by rfl) 25 _ rfl w.heap.size rfl HT.out HW.out.2.1 Try.underlying25 rfl HIR.out ?_)
  refine (HRB.out W).mono ?_
  rintro e W1 ⟨rfl, hb⟩
  replace HW := Lib.hid (HW.out.next hb)
  clear hb W
  go_wp2_with fail
  refine mv_start fun hS => ?_
  refine mv_yield (i := 0) (d := 57) (.agg T) rfl rfl (by kernel_rfl) (by kernel_rfl) (by kernel_rfl) hS (y_load_part (l := 0) (by rfl) rfl rfl HT.out (fun w' h => (HW.out.2.1).below h (HW.out.2.1).lt) HT.out (by omega) (fun i _ => by rw [Nat.zero_add]) Try.underlying25 rfl (HIR.out _ HT.out.1)) ?_
  simp only [Act.put, List.setIfInBounds_toArray, List.set_cons_zero, List.set_cons_succ]
  refine mv_yield (i := 2) (d := 59) (.agg V) rfl rfl (by kernel_rfl) (by kernel_rfl) (by kernel_rfl) hS (y_load_part (l := 0) (by rfl) rfl rfl HV.out (fun w' h => (HW.out.2.2.1).below h (HW.out.2.2.1).lt) HV.out (by omega) (fun i _ => by rw [Nat.zero_add]) Try.underlying23 rfl (HI4.out _ HV.out.1)) ?_
  simp only [Act.put, List.setIfInBounds_toArray, List.set_cons_zero, List.set_cons_succ]
  refine mv_yield (i := 3) (d := 60) (.agg U) rfl rfl (by kernel_rfl) (by kernel_rfl) (by kernel_rfl) hS (y_load_part (l := 0) (by rfl) rfl rfl HU.out (fun w' h => (HW.out.2.2.2).below h (HW.out.2.2.2).lt) HU.out (by omega) (fun i _ => by rw [Nat.zero_add]) Try.underlying22 rfl (HIA.out _ HU.out.1)) ?_
  simp only [Act.put, List.setIfInBounds_toArray, List.set_cons_zero, List.set_cons_succ]
  refine mv_yield (i := 4) (d := 61) (.int .i64 z) rfl rfl (by kernel_rfl) (by kernel_rfl) (by kernel_rfl) hS (y_run (by rfl) fun _ => by rfl) ?_
  simp only [Act.put, List.setIfInBounds_toArray, List.set_cons_zero, List.set_cons_succ]
  refine parD0 (fuel := 2) [1, 5, 6, 7, 8, 9, 10] [1, 5, 6, 7, 9, 10] 8 (fun i => decide (9 ≤ i)) (fun i => if i = 1 then .agg T else if i = 5 then .tuple #[.agg R, .agg Q] else if i = 6 then .tuple #[.agg R, .agg Q] else if i = 7 then .agg R else .agg Q) (fun i => if i = 9 then Zb else Zp) (fun i => if i = 9 then 30 else 32) #[true, true, true, true, true, true, true, true, false, true, true, false, false] #[true, true, true, true, true, true, true, true, true, true, true, false, false] _ rfl (by decide) (by decide) (by decide) rfl (by kernel_rfl) (by kernel_rfl) (by kernel_rfl) (by decide) rfl rfl rfl (by kernel_rfl) (by kernel_rfl) (by kernel_rfl) (by kernel_rfl) (by kernel_rfl) (by kernel_rfl) hS ?_ ?_ ?_
  · intro i hi
    simp only [List.mem_cons, List.not_mem_nil, or_false] at hi
    rcases hi with rfl | rfl | rfl | rfl | rfl | rfl | rfl
    · exact ⟨_, rfl, fun D val w' hw' hD hv => st_call (isA := fun i => decide (9 ≤ i)) (V := fun i => if i = 1 then .agg T else if i = 5 then .tuple #[.agg R, .agg Q] else if i = 6 then .tuple #[.agg R, .agg Q] else if i = 7 then .agg R else .agg Q) (Zc := fun i => if i = 9 then Zb else Zp) (ty := fun i => if i = 9 then 30 else 32) (i := 1) #[.agg T] rfl rfl rfl enter_of (map1 (Eq.trans (part_other _ _ (by kernel_rfl)) rfl)) (of_as T f _ HT.out)⟩
    · exact ⟨_, rfl, fun D val w' hw' hD hv => st_call (isA := fun i => decide (9 ≤ i)) (V := fun i => if i = 1 then .agg T else if i = 5 then .tuple #[.agg R, .agg Q] else if i = 6 then .tuple #[.agg R, .agg Q] else if i = 7 then .agg R else .agg Q) (Zc := fun i => if i = 9 then Zb else Zp) (ty := fun i => if i = 9 then 30 else 32) (i := 5) #[.agg T, .agg V, .agg U, .int .i64 z] rfl rfl rfl enter_next (map4 (Eq.trans (part_eval 1 rfl (hD 1 (by decide +kernel) (by decide)) _ _ rfl (by kernel_rfl) (by kernel_rfl)) (hv 1 (by decide) (hD 1 (by decide +kernel) (by decide)) rfl)) (Eq.trans (part_other _ _ (by kernel_rfl)) rfl) (Eq.trans (part_other _ _ (by kernel_rfl)) rfl) (Eq.trans (part_other _ _ (by kernel_rfl)) rfl)) (HC.out _)⟩
    · exact ⟨_, rfl, fun D val w' hw' hD hv => st_run (isA := fun i => decide (9 ≤ i)) (V := fun i => if i = 1 then .agg T else if i = 5 then .tuple #[.agg R, .agg Q] else if i = 6 then .tuple #[.agg R, .agg Q] else if i = 7 then .agg R else .agg Q) (Zc := fun i => if i = 9 then Zb else Zp) (ty := fun i => if i = 9 then 30 else 32) (i := 6) (run_move rfl (Eq.trans (part_eval 5 rfl (hD 5 (by decide +kernel) (by decide)) _ _ rfl (by kernel_rfl) (by kernel_rfl)) (hv 5 (by decide) (hD 5 (by decide +kernel) (by decide)) rfl))) rfl rfl⟩
    · exact ⟨_, rfl, fun D val w' hw' hD hv => st_run (isA := fun i => decide (9 ≤ i)) (V := fun i => if i = 1 then .agg T else if i = 5 then .tuple #[.agg R, .agg Q] else if i = 6 then .tuple #[.agg R, .agg Q] else if i = 7 then .agg R else .agg Q) (Zc := fun i => if i = 9 then Zb else Zp) (ty := fun i => if i = 9 then 30 else 32) (i := 7) (run_extract rfl (Eq.trans (part_eval 6 rfl (hD 6 (by decide +kernel) (by decide)) _ _ rfl (by kernel_rfl) (by kernel_rfl)) (hv 6 (by decide) (hD 6 (by decide +kernel) (by decide)) rfl)) rfl) rfl rfl⟩
    · exact ⟨_, rfl, fun D val w' hw' hD hv => st_run (isA := fun i => decide (9 ≤ i)) (V := fun i => if i = 1 then .agg T else if i = 5 then .tuple #[.agg R, .agg Q] else if i = 6 then .tuple #[.agg R, .agg Q] else if i = 7 then .agg R else .agg Q) (Zc := fun i => if i = 9 then Zb else Zp) (ty := fun i => if i = 9 then 30 else 32) (i := 8) (run_extract rfl (Eq.trans (part_eval 6 rfl (hD 6 (by decide +kernel) (by decide)) _ _ rfl (by kernel_rfl) (by kernel_rfl)) (hv 6 (by decide) (hD 6 (by decide +kernel) (by decide)) rfl)) rfl) rfl rfl⟩
    · exact ⟨_, rfl, fun D val w' hw' hD hv => st_alloc (isA := fun i => decide (9 ≤ i)) (V := fun i => if i = 1 then .agg T else if i = 5 then .tuple #[.agg R, .agg Q] else if i = 6 then .tuple #[.agg R, .agg Q] else if i = 7 then .agg R else .agg Q) (Zc := fun i => if i = 9 then Zb else Zp) (ty := fun i => if i = 9 then 30 else 32) (i := 9) rfl rfl rfl rfl hzb⟩
    · exact ⟨_, rfl, fun D val w' hw' hD hv => st_alloc (isA := fun i => decide (9 ≤ i)) (V := fun i => if i = 1 then .agg T else if i = 5 then .tuple #[.agg R, .agg Q] else if i = 6 then .tuple #[.agg R, .agg Q] else if i = 7 then .agg R else .agg Q) (Zc := fun i => if i = 9 then Zb else Zp) (ty := fun i => if i = 9 then 30 else 32) (i := 10) rfl rfl rfl rfl hzp⟩
  · exact ⟨_, rfl, fun D val hD hv => y_of_run (by rfl) (fun w' => run_extract rfl (Eq.trans (part_eval 6 rfl (hD 6 (by decide +kernel) (by decide)) _ _ rfl (by kernel_rfl) (by kernel_rfl)) (hv 6 (by decide) (hD 6 (by decide +kernel) (by decide)) rfl)) rfl)⟩
  clear hS
  intro val w' hS hY hV
  have v1 : val 1 = .agg T := (hY 1 (by simp)).1 rfl
  have v5 : val 5 = .tuple #[.agg R, .agg Q] := (hY 5 (by simp)).1 rfl
  have v6 : val 6 = .tuple #[.agg R, .agg Q] := (hY 6 (by simp)).1 rfl
  have v7 : val 7 = .agg R := (hY 7 (by simp)).1 rfl
  have v8 : val 8 = .agg Q := (hY 8 (by simp)).1 rfl
  obtain ⟨b9, e9, a9, g9⟩ : ∃ b, val 9 = .pointer (some ⟨b, 0, none⟩) ∧ At w' b Zb 30 ∧ W1.heap.size ≤ b := (hY 9 (by simp)).2 rfl
  obtain ⟨b10, e10, a10, g10⟩ : ∃ b, val 10 = .pointer (some ⟨b, 0, none⟩) ∧ At w' b Zp 32 ∧ W1.heap.size ≤ b := (hY 10 (by simp)).2 rfl
  have n12 : b9 ≠ b10 := fun e => hV 9 (by simp) 10 (by simp) (by decide) rfl rfl (by rw [e9, e10, e])
  show wpAnyH _ _ _ _ _ _ _ (Act.put (Act.put (Act.put (Act.put (Act.put (Act.put (Act.put _ (some 58) (val 1)) (some 62) (val 5)) (some 56) (val 6)) (some 63) (val 7)) (some 64) (val 8)) (some 12) (val 9)) (some 13) (val 10)) _
  rw [v1, v5, v6, v7, v8, e9, e10]
  simp only [Act.put, List.setIfInBounds_toArray, List.set_cons_zero, List.set_cons_succ]
  clear hY hV v1 v5 v6 v7 v8 e9 e10
  refine mv_store (i := 11) b9 R _ rfl rfl (by kernel_rfl) (by rfl) rfl rfl rfl a9 (by rw [HZB.out, HR.out.1]) HR.out.2.1 (HIB.out _ HR.out.1) g9 hS (fun hS1 => ?_)
  refine mv_store (i := 12) b10 Q _ rfl rfl (by kernel_rfl) (by rfl) rfl rfl rfl (a10.setRow_other (Ne.symm n12)) (by rw [HZP.out, HQ.out.1]) HQ.out.2.1 (HIP.out _ HQ.out.1) g10 hS1 (fun hS2 => ?_)
  refine mv_done (by kernel_rfl) ?_
  have PX := Lib.hid ((a9.setRow (C := R)).setRow_other (C := Q) n12)
  have PY := Lib.hid ((a10.setRow_other (C := R) (Ne.symm n12)).setRow (C := Q))
  replace HW := Lib.hid (HW.out.next hS2)
  clear hS hS1 hS2 a9 a10 g9 g10 n12 HC
  revert HW PX PY
  generalize World.setRow _ _ _ = W2
  intro PX PY HW
  clear w' W1
  go_wp2_with (first
    | refine wpList_load_all (by rfl) 23 _ rfl (w.heap.size + 1) rfl HV.out HW.out.2.2.1 Try.underlying23 rfl HI4.out ?_
    | refine wpList_load_all (by rfl) 22 _ rfl (w.heap.size + 1 + 1) rfl HU.out HW.out.2.2.2 Try.underlying22 rfl HIA.out ?_
    | refine wpList_build_parts (by rfl) 25 [(2, _), (3, _), (4, _)] rfl _ rfl HBP.out ?_)
  refine (HRT.out W2).mono ?_
  rintro e W3 ⟨rfl, hb⟩
  replace HW := Lib.hid (HW.out.next hb)
  replace PX := Lib.hid (PX.out.below hb PX.out.lt)
  replace PY := Lib.hid (PY.out.below hb PY.out.lt)
  clear hb W2
  go_wp2_with (first
    | refine wpList_load_all (by rfl) 30 _ rfl b9 rfl HR.out PX.out Try.underlying30 rfl HIB.out ?_
    | refine wpList_load_all (by rfl) 32 _ rfl b10 rfl HQ.out PY.out Try.underlying32 rfl HIP.out ?_
    | refine wpList_build_parts (by rfl) 32 [] rfl _ rfl HBQ.out ?_
    | refine wpList_build_parts (by rfl) 30 [] rfl _ rfl HBR.out ?_)
  go_ret
  exact ⟨rfl, HW.out.1⟩

set_option maxHeartbeats 2000000 in
theorem statePlays_yes (T V U : Array Value) (f v u : Nat → Int) (z : Int) (hT : IsRow 38 f T) (hV : IsRow 4 v V) (hU : IsRow 16 u U) (hr : Rt f) (hr2 : Rt (thF v u z)) (w : World) :
    Calls Try.prog 6 #[.agg T, .agg V, .agg U, .int .i64 z] w fun e w' => e = .returned (.bool true) ∧ Below w.heap.size w w' := by
  obtain ⟨Zp, hZp, _, hzp, hip⟩ := zero_p
  obtain ⟨Zb, hZb, _, hzb, hib⟩ := zero_b
  obtain ⟨_, _, _, _, hi4⟩ := zero_4
  obtain ⟨Za, hZa, _, hza, hia⟩ := zero_a
  obtain ⟨Zr, hZr, _, hzr, hir⟩ := zero_r
  have hC := next_yes T V U f v u z hT hV hU hr hr2
  obtain ⟨R, hR⟩ : ∃ R, IsRow 16 (soF f u) R := ⟨_, isRow _ _⟩
  obtain ⟨Q, hQ⟩ : ∃ Q, IsRow 38 (nxF f v u z) Q := ⟨_, isRow _ _⟩
  have HCR := Lib.hid (fun w => ret_as (refNext_as T V U f v u z hT hV hU hr (th_le hr2) w) hR hQ)
  have HC := Lib.hid (fun w => next_as hC hR hQ w)
  have HRI := Lib.hid (fun w => refRight_any T f true w hT (by simp [hr]))
  obtain ⟨P, hP, bP⟩ := built_3 isSt_r hV hU z
  have HRT := Lib.hid (fun w => refRight_any P _ true w hP (by unfold thF at hr2; simp [hr2]))
  have HBY := Lib.hid (fun w => bytes_yes T f w hT hr)
  have HRB := Lib.hid (fun w => refBytes_as T f hT hr w)
  have HRG := Lib.hid (fun w => right_yes T f w hT hr)
  have HBP := Lib.hid bP
  have e1 := rows_eq hR hR (fun _ _ => rfl) Try.underlying30
  have e2 := st_eq_r hQ hQ (fun _ _ => rfl)
  have HR := Lib.hid hR
  have HQ := Lib.hid hQ
  have HIP := Lib.hid hip
  have HIB := Lib.hid hib
  have HI4 := Lib.hid hi4
  have HIA := Lib.hid hia
  have HIR := Lib.hid hir
  have HT := Lib.hid hT
  have HV := Lib.hid hV
  have HU := Lib.hid hU
  have HZB := Lib.hid hZb.1
  have HZP := Lib.hid hZp.1
  have HZA := Lib.hid hZa.1
  have HZR := Lib.hid hZr.1
  have HW := Lib.hid (Tri.start w T V U 25 23 22)
  clear hT hV hU hip hib hi4 hia hir hZp hZb hZa hZr hR hQ hC hP bP hr hr2
  go_enter Try.func6, Try.ntmps6
  go_wp2_with fail
  revert HW
  generalize World.alloc _ _ = W
  intro HW
  refine (awake_as W).mono ?_
  rintro e W1 ⟨rfl, hb⟩
  replace HW := Lib.hid (HW.out.next hb)
  clear hb W
  go_wp2_with (refine wpList_load_all (by rfl) 25 _ rfl w.heap.size rfl HT.out HW.out.2.1 Try.underlying25 rfl HIR.out ?_)
  refine (HRI.out W1).mono ?_
  rintro e W ⟨rfl, hb⟩
  replace HW := Lib.hid (HW.out.next hb)
  clear hb W1
  go_wp2_with (refine wpList_load_all (by rfl) 25 _ rfl w.heap.size rfl HT.out HW.out.2.1 Try.underlying25 rfl HIR.out ?_)
  refine (of_as T f W HT.out).mono ?_
  rintro e W1 ⟨rfl, hb⟩
  replace HW := Lib.hid (HW.out.next hb)
  clear hb W
  go_wp2_with fail
  refine (HBY.out W1).mono ?_
  rintro e W ⟨rfl, hb⟩
  replace HW := Lib.hid (HW.out.next hb)
  clear hb W1
  obtain ⟨s, hs⟩ : ∃ s, (⟨(stL f).toArray⟩ : ByteArray) = s := ⟨_, rfl⟩
  rw [hs] at HRB
  rw [hs]
  clear hs
  have hss : (s.toList == s.toList) = true := by simp
  go_wp2_with (refine wpList_load_all (by rfl) 25 _ rfl w.heap.size rfl HT.out HW.out.2.1 Try.underlying25 rfl HIR.out ?_)
  refine (of_as T f W HT.out).mono ?_
  rintro e W1 ⟨rfl, hb⟩
  replace HW := Lib.hid (HW.out.next hb)
  clear hb W
  go_wp2_with fail
  refine (HRG.out W1).mono ?_
  rintro e W ⟨rfl, hb⟩
  replace HW := Lib.hid (HW.out.next hb)
  clear hb W1
  go_wp2_with (refine wpList_load_all (by rfl) 25 _ rfl w.heap.size rfl HT.out HW.out.2.1 Try.underlying25 rfl HIR.out ?_)
  refine (HRB.out W).mono ?_
  rintro e W1 ⟨rfl, hb⟩
  replace HW := Lib.hid (HW.out.next hb)
  clear hb W
  go_wp2_with fail
  refine mv_start fun hS => ?_
  refine mv_yield (i := 0) (d := 57) (.agg T) rfl rfl (by kernel_rfl) (by kernel_rfl) (by kernel_rfl) hS (y_load_part (l := 0) (by rfl) rfl rfl HT.out (fun w' h => (HW.out.2.1).below h (HW.out.2.1).lt) HT.out (by omega) (fun i _ => by rw [Nat.zero_add]) Try.underlying25 rfl (HIR.out _ HT.out.1)) ?_
  simp only [Act.put, List.setIfInBounds_toArray, List.set_cons_zero, List.set_cons_succ]
  refine mv_yield (i := 2) (d := 59) (.agg V) rfl rfl (by kernel_rfl) (by kernel_rfl) (by kernel_rfl) hS (y_load_part (l := 0) (by rfl) rfl rfl HV.out (fun w' h => (HW.out.2.2.1).below h (HW.out.2.2.1).lt) HV.out (by omega) (fun i _ => by rw [Nat.zero_add]) Try.underlying23 rfl (HI4.out _ HV.out.1)) ?_
  simp only [Act.put, List.setIfInBounds_toArray, List.set_cons_zero, List.set_cons_succ]
  refine mv_yield (i := 3) (d := 60) (.agg U) rfl rfl (by kernel_rfl) (by kernel_rfl) (by kernel_rfl) hS (y_load_part (l := 0) (by rfl) rfl rfl HU.out (fun w' h => (HW.out.2.2.2).below h (HW.out.2.2.2).lt) HU.out (by omega) (fun i _ => by rw [Nat.zero_add]) Try.underlying22 rfl (HIA.out _ HU.out.1)) ?_
  simp only [Act.put, List.setIfInBounds_toArray, List.set_cons_zero, List.set_cons_succ]
  refine mv_yield (i := 4) (d := 61) (.int .i64 z) rfl rfl (by kernel_rfl) (by kernel_rfl) (by kernel_rfl) hS (y_run (by rfl) fun _ => by rfl) ?_
  simp only [Act.put, List.setIfInBounds_toArray, List.set_cons_zero, List.set_cons_succ]
  refine parD0 (fuel := 2) [1, 5, 6, 7, 8, 9, 10] [1, 5, 6, 7, 9, 10] 8 (fun i => decide (9 ≤ i)) (fun i => if i = 1 then .agg T else if i = 5 then .tuple #[.agg R, .agg Q] else if i = 6 then .tuple #[.agg R, .agg Q] else if i = 7 then .agg R else .agg Q) (fun i => if i = 9 then Zb else Zp) (fun i => if i = 9 then 30 else 32) #[true, true, true, true, true, true, true, true, false, true, true, false, false] #[true, true, true, true, true, true, true, true, true, true, true, false, false] _ rfl (by decide) (by decide) (by decide) rfl (by kernel_rfl) (by kernel_rfl) (by kernel_rfl) (by decide) rfl rfl rfl (by kernel_rfl) (by kernel_rfl) (by kernel_rfl) (by kernel_rfl) (by kernel_rfl) (by kernel_rfl) hS ?_ ?_ ?_
  · intro i hi
    simp only [List.mem_cons, List.not_mem_nil, or_false] at hi
    rcases hi with rfl | rfl | rfl | rfl | rfl | rfl | rfl
    · exact ⟨_, rfl, fun D val w' hw' hD hv => st_call (isA := fun i => decide (9 ≤ i)) (V := fun i => if i = 1 then .agg T else if i = 5 then .tuple #[.agg R, .agg Q] else if i = 6 then .tuple #[.agg R, .agg Q] else if i = 7 then .agg R else .agg Q) (Zc := fun i => if i = 9 then Zb else Zp) (ty := fun i => if i = 9 then 30 else 32) (i := 1) #[.agg T] rfl rfl rfl enter_of (map1 (Eq.trans (part_other _ _ (by kernel_rfl)) rfl)) (of_as T f _ HT.out)⟩
    · exact ⟨_, rfl, fun D val w' hw' hD hv => st_call (isA := fun i => decide (9 ≤ i)) (V := fun i => if i = 1 then .agg T else if i = 5 then .tuple #[.agg R, .agg Q] else if i = 6 then .tuple #[.agg R, .agg Q] else if i = 7 then .agg R else .agg Q) (Zc := fun i => if i = 9 then Zb else Zp) (ty := fun i => if i = 9 then 30 else 32) (i := 5) #[.agg T, .agg V, .agg U, .int .i64 z] rfl rfl rfl enter_next (map4 (Eq.trans (part_eval 1 rfl (hD 1 (by decide +kernel) (by decide)) _ _ rfl (by kernel_rfl) (by kernel_rfl)) (hv 1 (by decide) (hD 1 (by decide +kernel) (by decide)) rfl)) (Eq.trans (part_other _ _ (by kernel_rfl)) rfl) (Eq.trans (part_other _ _ (by kernel_rfl)) rfl) (Eq.trans (part_other _ _ (by kernel_rfl)) rfl)) (HC.out _)⟩
    · exact ⟨_, rfl, fun D val w' hw' hD hv => st_run (isA := fun i => decide (9 ≤ i)) (V := fun i => if i = 1 then .agg T else if i = 5 then .tuple #[.agg R, .agg Q] else if i = 6 then .tuple #[.agg R, .agg Q] else if i = 7 then .agg R else .agg Q) (Zc := fun i => if i = 9 then Zb else Zp) (ty := fun i => if i = 9 then 30 else 32) (i := 6) (run_move rfl (Eq.trans (part_eval 5 rfl (hD 5 (by decide +kernel) (by decide)) _ _ rfl (by kernel_rfl) (by kernel_rfl)) (hv 5 (by decide) (hD 5 (by decide +kernel) (by decide)) rfl))) rfl rfl⟩
    · exact ⟨_, rfl, fun D val w' hw' hD hv => st_run (isA := fun i => decide (9 ≤ i)) (V := fun i => if i = 1 then .agg T else if i = 5 then .tuple #[.agg R, .agg Q] else if i = 6 then .tuple #[.agg R, .agg Q] else if i = 7 then .agg R else .agg Q) (Zc := fun i => if i = 9 then Zb else Zp) (ty := fun i => if i = 9 then 30 else 32) (i := 7) (run_extract rfl (Eq.trans (part_eval 6 rfl (hD 6 (by decide +kernel) (by decide)) _ _ rfl (by kernel_rfl) (by kernel_rfl)) (hv 6 (by decide) (hD 6 (by decide +kernel) (by decide)) rfl)) rfl) rfl rfl⟩
    · exact ⟨_, rfl, fun D val w' hw' hD hv => st_run (isA := fun i => decide (9 ≤ i)) (V := fun i => if i = 1 then .agg T else if i = 5 then .tuple #[.agg R, .agg Q] else if i = 6 then .tuple #[.agg R, .agg Q] else if i = 7 then .agg R else .agg Q) (Zc := fun i => if i = 9 then Zb else Zp) (ty := fun i => if i = 9 then 30 else 32) (i := 8) (run_extract rfl (Eq.trans (part_eval 6 rfl (hD 6 (by decide +kernel) (by decide)) _ _ rfl (by kernel_rfl) (by kernel_rfl)) (hv 6 (by decide) (hD 6 (by decide +kernel) (by decide)) rfl)) rfl) rfl rfl⟩
    · exact ⟨_, rfl, fun D val w' hw' hD hv => st_alloc (isA := fun i => decide (9 ≤ i)) (V := fun i => if i = 1 then .agg T else if i = 5 then .tuple #[.agg R, .agg Q] else if i = 6 then .tuple #[.agg R, .agg Q] else if i = 7 then .agg R else .agg Q) (Zc := fun i => if i = 9 then Zb else Zp) (ty := fun i => if i = 9 then 30 else 32) (i := 9) rfl rfl rfl rfl hzb⟩
    · exact ⟨_, rfl, fun D val w' hw' hD hv => st_alloc (isA := fun i => decide (9 ≤ i)) (V := fun i => if i = 1 then .agg T else if i = 5 then .tuple #[.agg R, .agg Q] else if i = 6 then .tuple #[.agg R, .agg Q] else if i = 7 then .agg R else .agg Q) (Zc := fun i => if i = 9 then Zb else Zp) (ty := fun i => if i = 9 then 30 else 32) (i := 10) rfl rfl rfl rfl hzp⟩
  · exact ⟨_, rfl, fun D val hD hv => y_of_run (by rfl) (fun w' => run_extract rfl (Eq.trans (part_eval 6 rfl (hD 6 (by decide +kernel) (by decide)) _ _ rfl (by kernel_rfl) (by kernel_rfl)) (hv 6 (by decide) (hD 6 (by decide +kernel) (by decide)) rfl)) rfl)⟩
  clear hS
  intro val w' hS hY hV
  have v1 : val 1 = .agg T := (hY 1 (by simp)).1 rfl
  have v5 : val 5 = .tuple #[.agg R, .agg Q] := (hY 5 (by simp)).1 rfl
  have v6 : val 6 = .tuple #[.agg R, .agg Q] := (hY 6 (by simp)).1 rfl
  have v7 : val 7 = .agg R := (hY 7 (by simp)).1 rfl
  have v8 : val 8 = .agg Q := (hY 8 (by simp)).1 rfl
  obtain ⟨b9, e9, a9, g9⟩ : ∃ b, val 9 = .pointer (some ⟨b, 0, none⟩) ∧ At w' b Zb 30 ∧ W1.heap.size ≤ b := (hY 9 (by simp)).2 rfl
  obtain ⟨b10, e10, a10, g10⟩ : ∃ b, val 10 = .pointer (some ⟨b, 0, none⟩) ∧ At w' b Zp 32 ∧ W1.heap.size ≤ b := (hY 10 (by simp)).2 rfl
  have n12 : b9 ≠ b10 := fun e => hV 9 (by simp) 10 (by simp) (by decide) rfl rfl (by rw [e9, e10, e])
  show wpAnyH _ _ _ _ _ _ _ (Act.put (Act.put (Act.put (Act.put (Act.put (Act.put (Act.put _ (some 58) (val 1)) (some 62) (val 5)) (some 56) (val 6)) (some 63) (val 7)) (some 64) (val 8)) (some 12) (val 9)) (some 13) (val 10)) _
  rw [v1, v5, v6, v7, v8, e9, e10]
  simp only [Act.put, List.setIfInBounds_toArray, List.set_cons_zero, List.set_cons_succ]
  clear hY hV v1 v5 v6 v7 v8 e9 e10
  refine mv_store (i := 11) b9 R _ rfl rfl (by kernel_rfl) (by rfl) rfl rfl rfl a9 (by rw [HZB.out, HR.out.1]) HR.out.2.1 (HIB.out _ HR.out.1) g9 hS (fun hS1 => ?_)
  refine mv_store (i := 12) b10 Q _ rfl rfl (by kernel_rfl) (by rfl) rfl rfl rfl (a10.setRow_other (Ne.symm n12)) (by rw [HZP.out, HQ.out.1]) HQ.out.2.1 (HIP.out _ HQ.out.1) g10 hS1 (fun hS2 => ?_)
  refine mv_done (by kernel_rfl) ?_
  have PX := Lib.hid ((a9.setRow (C := R)).setRow_other (C := Q) n12)
  have PY := Lib.hid ((a10.setRow_other (C := R) (Ne.symm n12)).setRow (C := Q))
  replace HW := Lib.hid (HW.out.next hS2)
  clear hS hS1 hS2 a9 a10 g9 g10 n12 HC
  revert HW PX PY
  generalize World.setRow _ _ _ = W2
  intro PX PY HW
  clear w' W1
  go_wp2_with (first
    | refine wpList_load_all (by rfl) 23 _ rfl (w.heap.size + 1) rfl HV.out HW.out.2.2.1 Try.underlying23 rfl HI4.out ?_
    | refine wpList_load_all (by rfl) 22 _ rfl (w.heap.size + 1 + 1) rfl HU.out HW.out.2.2.2 Try.underlying22 rfl HIA.out ?_
    | refine wpList_build_parts (by rfl) 25 [(2, _), (3, _), (4, _)] rfl _ rfl HBP.out ?_)
  refine (HRT.out W2).mono ?_
  rintro e W3 ⟨rfl, hb⟩
  replace HW := Lib.hid (HW.out.next hb)
  replace PX := Lib.hid (PX.out.below hb PX.out.lt)
  replace PY := Lib.hid (PY.out.below hb PY.out.lt)
  clear hb W2
  go_wp2_with (first
    | refine wpList_load_all (by rfl) 25 _ rfl w.heap.size rfl HT.out HW.out.2.1 Try.underlying25 rfl HIR.out ?_
    | refine wpList_load_all (by rfl) 23 _ rfl (w.heap.size + 1) rfl HV.out HW.out.2.2.1 Try.underlying23 rfl HI4.out ?_
    | refine wpList_load_all (by rfl) 22 _ rfl (w.heap.size + 1 + 1) rfl HU.out HW.out.2.2.2 Try.underlying22 rfl HIA.out ?_)
  refine (HCR.out W3).mono ?_
  rintro e w3 ⟨rfl, hb⟩
  have HB := Lib.hid (below_trans HW.out.1 hb HW.out.1.size)
  replace PX := Lib.hid (PX.out.below hb PX.out.lt)
  replace PY := Lib.hid (PY.out.below hb PY.out.lt)
  have HD := Lib.hid (Duo.start (Below.refl w3.heap.size w3) Za Zr 22 25)
  clear hb HCR HW
  go_wp2_with (first
    | (refine wpList_store_row rfl 22 _ _ rfl w3.heap.size R rfl rfl _ _ HD.out.2.2.1 (HIA.out _ HR.out.1) (by rw [HZA.out, HR.out.1]) HR.out.2.1 ?_
       replace HD := Lib.hid (HD.out.set1 R)
       revert HD
       generalize World.setRow _ _ _ = W4
       intro HD)
    | (refine wpList_store_row rfl 25 _ _ rfl (w3.heap.size + 1) Q rfl rfl _ _ HD.out.2.2.2 (HIR.out _ HQ.out.1) (by rw [HZR.out, HQ.out.1]) HQ.out.2.1 ?_
       replace HD := Lib.hid (HD.out.set2 Q)
       replace PX := Lib.hid (PX.out.below HD.out.1 PX.out.lt)
       replace PY := Lib.hid (PY.out.below HD.out.1 PY.out.lt)
       replace HB := Lib.hid (below_trans HB.out HD.out.1 HB.out.size)
       have PM := Lib.hid HD.out.2.2.1
       have PN := Lib.hid HD.out.2.2.2
       clear HD
       revert PX PY HB PM PN
       generalize World.setRow _ _ _ = W5
       generalize w3.heap.size = bb
       intro PX PY HB PM PN))
  refine mv_start fun hS => ?_
  refine mv_yield (i := 0) (d := 91) (.agg R) rfl rfl (by kernel_rfl) (by kernel_rfl) (by kernel_rfl) hS (y_load_part (l := 0) (by rfl) rfl rfl HR.out (fun w' h => (PX.out).below h (PX.out).lt) HR.out (by omega) (fun i _ => by rw [Nat.zero_add]) Try.underlying30 rfl (HIB.out _ HR.out.1)) ?_
  simp only [Act.put, List.setIfInBounds_toArray, List.set_cons_zero, List.set_cons_succ]
  refine mv_yield (i := 1) (d := 92) (.agg R) rfl rfl (by kernel_rfl) (by kernel_rfl) (by kernel_rfl) hS (y_load_part (l := 0) (by rfl) rfl rfl HR.out (fun w' h => (PM.out).below h (PM.out).lt) HR.out (by omega) (fun i _ => by rw [Nat.zero_add]) Try.underlying22 rfl (HIA.out _ HR.out.1)) ?_
  simp only [Act.put, List.setIfInBounds_toArray, List.set_cons_zero, List.set_cons_succ]
  refine mv_yield (i := 2) (d := 93) (.bool true) rfl rfl (by kernel_rfl) (by kernel_rfl) (by kernel_rfl) hS (y_eql (by rfl) rfl rfl rfl (by kernel_rfl) e1) ?_
  simp only [Act.put, List.setIfInBounds_toArray, List.set_cons_zero, List.set_cons_succ]
  refine mv_yield (i := 3) (d := 94) (.bool true) rfl rfl (by kernel_rfl) (by kernel_rfl) (by kernel_rfl) hS (y_run (by rfl) fun _ => by rfl) ?_
  simp only [Act.put, List.setIfInBounds_toArray, List.set_cons_zero, List.set_cons_succ]
  refine mv_yield (i := 4) (d := 95) (.agg Q) rfl rfl (by kernel_rfl) (by kernel_rfl) (by kernel_rfl) hS (y_load_part (l := 0) (by rfl) rfl rfl HQ.out (fun w' h => (PY.out).below h (PY.out).lt) HQ.out (by omega) (fun i _ => by rw [Nat.zero_add]) Try.underlying32 rfl (HIP.out _ HQ.out.1)) ?_
  simp only [Act.put, List.setIfInBounds_toArray, List.set_cons_zero, List.set_cons_succ]
  refine mv_yield (i := 6) (d := 97) (.agg Q) rfl rfl (by kernel_rfl) (by kernel_rfl) (by kernel_rfl) hS (y_load_part (l := 0) (by rfl) rfl rfl HQ.out (fun w' h => (PN.out).below h (PN.out).lt) HQ.out (by omega) (fun i _ => by rw [Nat.zero_add]) Try.underlying25 rfl (HIR.out _ HQ.out.1)) ?_
  simp only [Act.put, List.setIfInBounds_toArray, List.set_cons_zero, List.set_cons_succ]
  refine mv_call (i := 5) (d := 96) (v := (.agg Q)) #[.agg Q] rfl rfl (by kernel_rfl) (by rfl) rfl hS enter_plain (by kernel_rfl) (plain_as Q _ _ HQ.out) ?_
  clear hS
  rintro w' hS
  simp only [Act.put, List.setIfInBounds_toArray, List.set_cons_zero, List.set_cons_succ]
  refine mv_yield (i := 7) (d := 98) (.bool true) rfl rfl (by kernel_rfl) (by kernel_rfl) (by kernel_rfl) hS (y_eql (by rfl) rfl rfl rfl (by kernel_rfl) e2) ?_
  simp only [Act.put, List.setIfInBounds_toArray, List.set_cons_zero, List.set_cons_succ]
  refine mv_yield (i := 8) (d := 99) (.bool true) rfl rfl (by kernel_rfl) (by kernel_rfl) (by kernel_rfl) hS (y_run (by rfl) fun _ => by rfl) ?_
  simp only [Act.put, List.setIfInBounds_toArray, List.set_cons_zero, List.set_cons_succ]
  refine mv_yield (i := 9) (d := 8) (.bool true) rfl rfl (by kernel_rfl) (by kernel_rfl) (by kernel_rfl) hS (y_run (by rfl) fun _ => by rfl) ?_
  simp only [Act.put, List.setIfInBounds_toArray, List.set_cons_zero, List.set_cons_succ]
  refine mv_done (by kernel_rfl) ?_
  have HBF := Lib.hid (below_trans HB.out hS HB.out.size)
  clear hS
  go_wp2_with fail
  go_ret
  exact ⟨rfl, HBF.out⟩

theorem statePlays_walk (T V U : Array Value) (f v u : Nat → Int) (z : Int) (hT : IsRow 38 f T) (hV : IsRow 4 v V) (hU : IsRow 16 u U) (w : World) :
    Calls Try.prog 6 #[.agg T, .agg V, .agg U, .int .i64 z] w fun e w' => e = .returned (.bool true) ∧ Below w.heap.size w w' := by
  by_cases h1 : Rt f
  · by_cases h2 : Rt (thF v u z)
    · exact statePlays_yes T V U f v u z hT hV hU h1 h2 w
    · exact statePlays_half T V U f v u z hT hV hU h1 h2 w
  · exact statePlays_no T V U f v u z hT hV hU h1 w
end Go.Proofs.Ytinbdkneakblfaa.Sta
end
