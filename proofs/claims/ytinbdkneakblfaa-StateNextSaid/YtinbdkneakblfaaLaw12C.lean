/- StateNext. Written by g28.py. -/
import Derived.Test.YtinbdkneakblfaaStP
set_option maxRecDepth 100000
set_option linter.unusedVariables false
namespace Go.Proofs.Ytinbdkneakblfaa.Sta
open Go.RowKit Go.Proofs.Ytinbdkneakblfaa.Row Go.Proofs.Ytinbdkneakblfaa.Md Go.Proofs.Ytinbdkneakblfaa.Tl

set_option maxHeartbeats 2000000 in
theorem stateNext_walk (T V U : Array Value) (f v u : Nat → Int) (z : Int) (hT : IsRow 38 f T) (hV : IsRow 4 v V) (hU : IsRow 16 u U) (w : World) :
    Calls Try.prog 5 #[.agg T, .agg V, .agg U, .int .i64 z] w fun e w' => e = .returned (.bool true) ∧ Below w.heap.size w w' := by
  obtain ⟨Zp, hZp, _, hzp, hip⟩ := zero_p
  obtain ⟨Zb, hZb, _, hzb, hib⟩ := zero_b
  obtain ⟨_, _, _, _, hi4⟩ := zero_4
  obtain ⟨_, _, _, _, hia⟩ := zero_a
  obtain ⟨_, _, _, _, hir⟩ := zero_r
  obtain ⟨R, Q, h, g, hC, hR, hQ, hb16, hright⟩ := next_any z hT hV hU
  obtain ⟨E, hE, bE⟩ := built_0 isSt_p
  obtain ⟨D, hD, bD⟩ := built_b
  obtain ⟨G, hG, bG⟩ := built_4r
  have HC := Lib.hid hC
  have HCZ := Lib.hid (next_zero hE hG hD hD hE)
  have HRT := Lib.hid hright
  have H16 := Lib.hid hb16
  have HR := Lib.hid hR
  have HQ := Lib.hid hQ
  have HIP := Lib.hid hip
  have HIB := Lib.hid hib
  have HI4 := Lib.hid hi4
  have HIA := Lib.hid hia
  have HIR := Lib.hid hir
  have HT := Lib.hid hT
  have HV := Lib.hid hV
  have HU := Lib.hid hU
  have HZB := Lib.hid hZb.1
  have HZP := Lib.hid hZp.1
  have HE := Lib.hid hE
  have HBE := Lib.hid bE
  have HD := Lib.hid hD
  have HBD := Lib.hid bD
  have HG := Lib.hid hG
  have HBG := Lib.hid bG
  have HW := Lib.hid (Tri.start w T V U 25 23 22)
  have e1 := rows_eq hD hD (fun _ _ => rfl) Try.underlying30
  have e2 := st_eq_p hE hE (fun _ _ => rfl)
  clear hT hV hU hip hib hi4 hia hir hZp hZb hC hR hQ hb16 hright hE bE hD bD hG bG
  go_enter Try.func5, Try.ntmps5
  go_wp2_with fail
  revert HW
  generalize World.alloc _ _ = W
  intro HW
  refine (awake_as W).mono ?_
  rintro e W1 ⟨rfl, hb⟩
  replace HW := Lib.hid (HW.out.next hb)
  clear hb W
  go_wp2_with fail
  refine mv_start fun hS => ?_
  refine mv_yield (i := 0) (d := 17) (.agg T) rfl rfl (by kernel_rfl) (by kernel_rfl) (by kernel_rfl) hS (y_load_part (l := 0) (by rfl) rfl rfl HT.out (fun w' h => (HW.out.2.1).below h (HW.out.2.1).lt) HT.out (by omega) (fun i _ => by rw [Nat.zero_add]) Try.underlying25 rfl (HIR.out _ HT.out.1)) ?_
  simp only [Act.put, List.setIfInBounds_toArray, List.set_cons_zero, List.set_cons_succ]
  refine mv_yield (i := 2) (d := 19) (.agg V) rfl rfl (by kernel_rfl) (by kernel_rfl) (by kernel_rfl) hS (y_load_part (l := 0) (by rfl) rfl rfl HV.out (fun w' h => (HW.out.2.2.1).below h (HW.out.2.2.1).lt) HV.out (by omega) (fun i _ => by rw [Nat.zero_add]) Try.underlying23 rfl (HI4.out _ HV.out.1)) ?_
  simp only [Act.put, List.setIfInBounds_toArray, List.set_cons_zero, List.set_cons_succ]
  refine mv_yield (i := 3) (d := 20) (.agg U) rfl rfl (by kernel_rfl) (by kernel_rfl) (by kernel_rfl) hS (y_load_part (l := 0) (by rfl) rfl rfl HU.out (fun w' h => (HW.out.2.2.2).below h (HW.out.2.2.2).lt) HU.out (by omega) (fun i _ => by rw [Nat.zero_add]) Try.underlying22 rfl (HIA.out _ HU.out.1)) ?_
  simp only [Act.put, List.setIfInBounds_toArray, List.set_cons_zero, List.set_cons_succ]
  refine mv_yield (i := 4) (d := 21) (.int .i64 z) rfl rfl (by kernel_rfl) (by kernel_rfl) (by kernel_rfl) hS (y_run (by rfl) fun _ => by rfl) ?_
  simp only [Act.put, List.setIfInBounds_toArray, List.set_cons_zero, List.set_cons_succ]
  refine parD0 (fuel := 2) [1, 5, 6, 7, 8, 9, 10] [1, 5, 6, 7, 9, 10] 8 (fun i => decide (9 ≤ i)) (fun i => if i = 1 then .agg T else if i = 5 then .tuple #[.agg R, .agg Q] else if i = 6 then .tuple #[.agg R, .agg Q] else if i = 7 then .agg R else .agg Q) (fun i => if i = 9 then Zb else Zp) (fun i => if i = 9 then 30 else 32) #[true, true, true, true, true, true, true, true, false, true, true, false, false] #[true, true, true, true, true, true, true, true, true, true, true, false, false] _ rfl (by decide) (by decide) (by decide) rfl (by kernel_rfl) (by kernel_rfl) (by kernel_rfl) (by decide) rfl rfl rfl (by kernel_rfl) (by kernel_rfl) (by kernel_rfl) (by kernel_rfl) (by kernel_rfl) (by kernel_rfl) hS ?_ ?_ ?_
  · intro i hi
    simp only [List.mem_cons, List.not_mem_nil, or_false] at hi
    rcases hi with rfl | rfl | rfl | rfl | rfl | rfl | rfl
    · exact ⟨_, rfl, fun D val w' hw' hD hv => st_call (isA := fun i => decide (9 ≤ i)) (V := fun i => if i = 1 then .agg T else if i = 5 then .tuple #[.agg R, .agg Q] else if i = 6 then .tuple #[.agg R, .agg Q] else if i = 7 then .agg R else .agg Q) (Zc := fun i => if i = 9 then Zb else Zp) (ty := fun i => if i = 9 then 30 else 32) (i := 1) #[.agg T] rfl rfl rfl enter_of (map1 (Eq.trans (part_other _ _ (by kernel_rfl)) rfl)) (of_as T f _ HT.out)⟩
    · exact ⟨_, rfl, fun D val w' hw' hD hv => st_call (isA := fun i => decide (9 ≤ i)) (V := fun i => if i = 1 then .agg T else if i = 5 then .tuple #[.agg R, .agg Q] else if i = 6 then .tuple #[.agg R, .agg Q] else if i = 7 then .agg R else .agg Q) (Zc := fun i => if i = 9 then Zb else Zp) (ty := fun i => if i = 9 then 30 else 32) (i := 5) #[.agg T, .agg V, .agg U, .int .i64 z] rfl rfl rfl enter_next (map4 (Eq.trans (part_eval 1 rfl (hD 1 (by decide +kernel) (by decide)) _ _ rfl (by kernel_rfl) (by kernel_rfl)) (hv 1 (by decide) (hD 1 (by decide +kernel) (by decide)) rfl)) (Eq.trans (part_other _ _ (by kernel_rfl)) rfl) (Eq.trans (part_other _ _ (by kernel_rfl)) rfl) (Eq.trans (part_other _ _ (by kernel_rfl)) rfl)) (HC.out _)⟩
    · exact ⟨_, rfl, fun D val w' hw' hD hv => st_run (isA := fun i => decide (9 ≤ i)) (V := fun i => if i = 1 then .agg T else if i = 5 then .tuple #[.agg R, .agg Q] else if i = 6 then .tuple #[.agg R, .agg Q] else if i = 7 then .agg R else .agg Q) (Zc := fun i => if i = 9 then Zb else Zp) (ty := fun i => if i = 9 then 30 else 32) (i := 6) (run_move rfl (Eq.trans (part_eval 5 rfl (hD 5 (by decide +kernel) (by decide)) _ _ rfl (by kernel_rfl) (by kernel_rfl)) (hv 5 (by decide) (hD 5 (by decide +kernel) (by decide)) rfl))) rfl rfl⟩
    · exact ⟨_, rfl, fun D val w' hw' hD hv => st_run (isA := fun i => decide (9 ≤ i)) (V := fun i => if i = 1 then .agg T else if i = 5 then .tuple #[.agg R, .agg Q] else if i = 6 then .tuple #[.agg R, .agg Q] else if i = 7 then .agg R else .agg Q) (Zc := fun i => if i = 9 then Zb else Zp) (ty := fun i => if i = 9 then 30 else 32) (i := 7) (run_extract rfl (Eq.trans (part_eval 6 rfl (hD 6 (by decide +kernel) (by decide)) _ _ rfl (by kernel_rfl) (by kernel_rfl)) (hv 6 (by decide) (hD 6 (by decide +kernel) (by decide)) rfl)) rfl) rfl rfl⟩
    · exact ⟨_, rfl, fun D val w' hw' hD hv => st_run (isA := fun i => decide (9 ≤ i)) (V := fun i => if i = 1 then .agg T else if i = 5 then .tuple #[.agg R, .agg Q] else if i = 6 then .tuple #[.agg R, .agg Q] else if i = 7 then .agg R else .agg Q) (Zc := fun i => if i = 9 then Zb else Zp) (ty := fun i => if i = 9 then 30 else 32) (i := 8) (run_extract rfl (Eq.trans (part_eval 6 rfl (hD 6 (by decide +kernel) (by decide)) _ _ rfl (by kernel_rfl) (by kernel_rfl)) (hv 6 (by decide) (hD 6 (by decide +kernel) (by decide)) rfl)) rfl) rfl rfl⟩
    · exact ⟨_, rfl, fun D val w' hw' hD hv => st_alloc (isA := fun i => decide (9 ≤ i)) (V := fun i => if i = 1 then .agg T else if i = 5 then .tuple #[.agg R, .agg Q] else if i = 6 then .tuple #[.agg R, .agg Q] else if i = 7 then .agg R else .agg Q) (Zc := fun i => if i = 9 then Zb else Zp) (ty := fun i => if i = 9 then 30 else 32) (i := 9) rfl rfl rfl rfl hzb⟩
    · exact ⟨_, rfl, fun D val w' hw' hD hv => st_alloc (isA := fun i => decide (9 ≤ i)) (V := fun i => if i = 1 then .agg T else if i = 5 then .tuple #[.agg R, .agg Q] else if i = 6 then .tuple #[.agg R, .agg Q] else if i = 7 then .agg R else .agg Q) (Zc := fun i => if i = 9 then Zb else Zp) (ty := fun i => if i = 9 then 30 else 32) (i := 10) rfl rfl rfl rfl hzp⟩
  · exact ⟨_, rfl, fun D val hD hv => y_of_run (by rfl) (fun w' => run_extract rfl (Eq.trans (part_eval 6 rfl (hD 6 (by decide +kernel) (by decide)) _ _ rfl (by kernel_rfl) (by kernel_rfl)) (hv 6 (by decide) (hD 6 (by decide +kernel) (by decide)) rfl)) rfl)⟩
  clear hS
  intro val w' hS hY hV
  have v1 : val 1 = .agg T := (hY 1 (by simp)).1 rfl
  have v5 : val 5 = .tuple #[.agg R, .agg Q] := (hY 5 (by simp)).1 rfl
  have v6 : val 6 = .tuple #[.agg R, .agg Q] := (hY 6 (by simp)).1 rfl
  have v7 : val 7 = .agg R := (hY 7 (by simp)).1 rfl
  have v8 : val 8 = .agg Q := (hY 8 (by simp)).1 rfl
  obtain ⟨b9, e9, a9, g9⟩ : ∃ b, val 9 = .pointer (some ⟨b, 0, none⟩) ∧ At w' b Zb 30 ∧ W1.heap.size ≤ b := (hY 9 (by simp)).2 rfl
  obtain ⟨b10, e10, a10, g10⟩ : ∃ b, val 10 = .pointer (some ⟨b, 0, none⟩) ∧ At w' b Zp 32 ∧ W1.heap.size ≤ b := (hY 10 (by simp)).2 rfl
  have n12 : b9 ≠ b10 := fun e => hV 9 (by simp) 10 (by simp) (by decide) rfl rfl (by rw [e9, e10, e])
  show wpAnyH _ _ _ _ _ _ _ (Act.put (Act.put (Act.put (Act.put (Act.put (Act.put (Act.put _ (some 18) (val 1)) (some 22) (val 5)) (some 16) (val 6)) (some 23) (val 7)) (some 24) (val 8)) (some 9) (val 9)) (some 10) (val 10)) _
  rw [v1, v5, v6, v7, v8, e9, e10]
  simp only [Act.put, List.setIfInBounds_toArray, List.set_cons_zero, List.set_cons_succ]
  clear hY hV v1 v5 v6 v7 v8 e9 e10
  refine mv_store (i := 11) b9 R _ rfl rfl (by kernel_rfl) (by rfl) rfl rfl rfl a9 (by rw [HZB.out, HR.out.1]) HR.out.2.1 (HIB.out _ HR.out.1) g9 hS (fun hS1 => ?_)
  refine mv_store (i := 12) b10 Q _ rfl rfl (by kernel_rfl) (by rfl) rfl rfl rfl (a10.setRow_other (Ne.symm n12)) (by rw [HZP.out, HQ.out.1]) HQ.out.2.1 (HIP.out _ HQ.out.1) g10 hS1 (fun hS2 => ?_)
  refine mv_done (by kernel_rfl) ?_
  have PX := Lib.hid ((a9.setRow (C := R)).setRow_other (C := Q) n12)
  have PY := Lib.hid ((a10.setRow_other (C := R) (Ne.symm n12)).setRow (C := Q))
  have HB := Lib.hid (below_trans HW.out.1 hS2 HW.out.1.size)
  clear hS hS1 hS2 a9 a10 g9 g10 n12 HC HT HV HU HW
  revert PX PY HB
  generalize World.setRow _ _ _ = W2
  intro PX PY HB
  clear w'
  go_wp2_with fail
  go_loopw [11] (fun i wx => ∃ k : Nat, k ≤ 16 ∧ i = .int .i64 k ∧ wx = W2) (fun i _ => 16 - (intOf i).toNat)
  case atStart => exact ⟨0, by omega, rfl, rfl⟩
  case round =>
    obtain ⟨k, hk, rfl, rfl⟩ := hrel
    by_cases hlt : k < 16
    · have k1 : (k : Int) < 16 := by omega
      have c0 := HR.out.cell PX.out k hlt
      obtain ⟨x0, x1⟩ := H16.out k
      obtain ⟨x, hx⟩ : ∃ x, h k = x := ⟨_, rfl⟩
      rw [hx] at c0 x0 x1
      clear hx
      go_wp2_with fail
      go_roundw
      case rel => exact ⟨k + 1, by omega, by go_num, trivial⟩
      case measure => simp [intOf]; omega
    · have hn16 : ¬ (k : Int) < 16 := by omega
      clear hlt hk
      go_wp2_with (first
        | refine wpList_build_parts (by rfl) 32 [] rfl _ rfl HBE.out ?_
        | refine wpList_build_parts (by rfl) 23 [] rfl _ rfl HBG.out ?_
        | refine wpList_build_parts (by rfl) 30 [] rfl _ rfl HBD.out ?_)
      clear hn16
      refine (HCZ.out wr).mono ?_
      rintro e w3 ⟨rfl, hb⟩
      have PQ := Lib.hid (PY.out.below hb PY.out.lt)
      have HB3 := Lib.hid (below_trans HB.out hb HB.out.size)
      have HU := Lib.hid (Duo.start (Below.refl w3.heap.size w3) Zb Zp 30 32)
      clear hb HCZ PX PY HB
      go_wp2_with (first
        | (refine wpList_store_row rfl 30 _ _ rfl w3.heap.size D rfl rfl _ _ HU.out.2.2.1 (HIB.out _ HD.out.1) (by rw [HZB.out, HD.out.1]) HD.out.2.1 ?_
           replace HU := Lib.hid (HU.out.set1 D)
           revert HU
           generalize World.setRow _ _ _ = W4
           intro HU)
        | (refine wpList_store_row rfl 32 _ _ rfl (w3.heap.size + 1) E rfl rfl _ _ HU.out.2.2.2 (HIP.out _ HE.out.1) (by rw [HZP.out, HE.out.1]) HE.out.2.1 ?_
           replace HU := Lib.hid (HU.out.set2 E)
           have PQ2 := Lib.hid (PQ.out.below HU.out.1 PQ.out.lt)
           have HB4 := Lib.hid (below_trans HB3.out HU.out.1 HB3.out.size)
           clear PQ HB3
           revert HU PQ2 HB4
           generalize World.setRow _ _ _ = W5
           intro HU PQ2 HB4)
        | refine wpList_load_all (by rfl) 32 _ rfl b10 rfl HQ.out PQ2.out Try.underlying32 rfl HIP.out ?_)
      refine (right_yes Q g _ HQ.out HRT.out).mono ?_
      rintro e w6 ⟨rfl, hb⟩
      replace HU := Lib.hid (HU.out.next hb)
      replace HB4 := Lib.hid (below_trans HB4.out hb HB4.out.size)
      clear hb
      go_wp2_with (first
        | refine wpList_load_all (by rfl) 30 _ rfl w3.heap.size rfl HD.out HU.out.2.2.1 Try.underlying30 rfl HIB.out ?_
        | refine wpList_load_all (by rfl) 32 _ rfl (w3.heap.size + 1) rfl HE.out HU.out.2.2.2 Try.underlying32 rfl HIP.out ?_
        | refine wpList_build_parts (by rfl) 32 [] rfl _ rfl HBE.out ?_
        | refine wpList_build_parts (by rfl) 30 [] rfl _ rfl HBD.out ?_)
      go_ret
      exact ⟨rfl, HB4.out⟩
end Go.Proofs.Ytinbdkneakblfaa.Sta
