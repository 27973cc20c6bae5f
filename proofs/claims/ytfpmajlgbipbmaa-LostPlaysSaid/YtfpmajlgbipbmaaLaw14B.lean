/- LostPlays. Written by g39.py. -/
import Derived.Test.YtfpmajlgbipbmaaLoE
import Derived.Test.YtfpmajlgbipbmaaLoR
import Derived.Test.YtfpmajlgbipbmaaStPl
set_option maxRecDepth 100000
set_option linter.unusedVariables false
namespace Go.Proofs.Ytfpmajlgbipbmaa.Lo
open Go.RowKit Go.Proofs.Ytfpmajlgbipbmaa.Row Go.Proofs.Ytfpmajlgbipbmaa.Md Go.Proofs.Ytfpmajlgbipbmaa.Tl Go.Proofs.Ytfpmajlgbipbmaa.Sta

set_option maxHeartbeats 2000000 in
theorem lostPlays_no (T : Array Value) (f : Nat → Int) (hT : IsRow 38 f T) (hr : ¬ Rt f) (w : World) :
    Calls Try.prog 5 #[.agg T] w fun e w' => e = .returned (.bool true) ∧ Below w.heap.size w w' := by
  obtain ⟨Zp, hZp, _, hzp, hip⟩ := zero_p
  obtain ⟨Zb, hZb, _, hzb, hib⟩ := zero_b
  obtain ⟨Zr, hZr, _, hzr, hir⟩ := zero_r
  obtain ⟨Za, hZa, _, hza, hia⟩ := zero_a
  obtain ⟨E, hE, bE⟩ := built_0 isSt_p
  obtain ⟨R, hR, bR⟩ := built_b
  obtain ⟨Q, hQ, bQ⟩ : ∃ Q, IsRow 38 (fun _ => 0) Q ∧ Q = E := ⟨E, hE, rfl⟩
  have hC := lose_no hT hr hR hQ
  have HRI := Lib.hid (fun w => refRight_any T f false w hT (by simp [hr]))
  have e1 := rows_eq hR hR (fun _ _ => rfl) Try.underlying29
  have e2 := st_eq_p hE hE (fun _ _ => rfl)
  have HBR := Lib.hid bR
  rw [bQ] at hC hQ
  clear bQ bR Q
  have HG := Lib.hid (gap_of hT hE hC hR hQ)
  have HC := Lib.hid hC
  have HIP := Lib.hid hip
  have HIB := Lib.hid hib
  have HIR := Lib.hid hir
  have HIA := Lib.hid hia
  have HR := Lib.hid hR
  have HE := Lib.hid hE

  have HBE := Lib.hid bE
  have HT := Lib.hid hT
  have HZB := Lib.hid hZb.1
  have HZP := Lib.hid hZp.1
  have HZA := Lib.hid hZa.1
  have HZR := Lib.hid hZr.1
  have HD := Lib.hid (One.start w T 25)
  clear hip hib hir hia hR hQ hC  bE hT hZb hZp hZr hZa hr
  go_enter Try.func5, Try.ntmps5
  go_wp2_with fail
  revert HD
  generalize World.alloc _ _ = W
  intro HD
  refine (awake_as W).mono ?_
  rintro e W1 ⟨rfl, hb⟩
  replace HD := Lib.hid (HD.out.next hb)
  clear hb W
  go_wp2_with (refine wpList_load_all (by rfl) 25 _ rfl w.heap.size rfl HT.out HD.out.2 Try.underlying25 rfl HIR.out ?_)
  refine (of_as T f W1 HT.out).mono ?_
  rintro e W ⟨rfl, hb⟩
  replace HD := Lib.hid (HD.out.next hb)
  clear hb W1
  go_wp2_with fail
  refine (HC.out W).mono ?_
  rintro e W1 ⟨rfl, hb⟩
  replace HD := Lib.hid (HD.out.next hb)
  clear hb W
  have HU := Lib.hid (Duo.start (Below.refl W1.heap.size W1) Zb Zp 29 31)
  go_wp2_with (first
    | (refine wpList_store_row rfl 29 _ _ rfl W1.heap.size R rfl rfl _ _ HU.out.2.2.1 (HIB.out _ HR.out.1) (by rw [HZB.out, HR.out.1]) HR.out.2.1 ?_
       replace HU := Lib.hid (HU.out.set1 R)
       revert HU
       generalize World.setRow _ _ _ = W4
       intro HU)
    | (refine wpList_store_row rfl 31 _ _ rfl (W1.heap.size + 1) E rfl rfl _ _ HU.out.2.2.2 (HIP.out _ HE.out.1) (by rw [HZP.out, HE.out.1]) HE.out.2.1 ?_
       replace HU := Lib.hid (HU.out.set2 E)
       revert HU
       generalize World.setRow _ _ _ = W5
       intro HU)
    | refine wpList_load_all (by rfl) 25 _ rfl w.heap.size rfl HT.out (HD.out.next HU.out.1).2 Try.underlying25 rfl HIR.out ?_)
  refine (of_as T f _ HT.out).mono ?_
  rintro e W ⟨rfl, hb⟩
  have PX1 := Lib.hid (At.two HU.out.2.2.1 hb)
  have PY1 := Lib.hid (At.two HU.out.2.2.2 hb)
  replace HD := Lib.hid ((HD.out.next HU.out.1).next hb)
  clear hb HU
  revert PX1 PY1
  generalize W1.heap.size = b1
  intro PX1 PY1
  clear W1 W5 W4
  go_wp2_with fail
  refine (HG.out W).mono ?_
  rintro e W1 ⟨rfl, hb⟩
  replace PX1 := Lib.hid (At.two PX1.out hb)
  replace PY1 := Lib.hid (At.two PY1.out hb)
  replace HD := Lib.hid (HD.out.next hb)
  clear hb W
  have HU := Lib.hid (Duo.start (Below.refl W1.heap.size W1) Zb Zp 29 31)
  go_wp2_with (first
    | (refine wpList_store_row rfl 29 _ _ rfl W1.heap.size R rfl rfl _ _ HU.out.2.2.1 (HIB.out _ HR.out.1) (by rw [HZB.out, HR.out.1]) HR.out.2.1 ?_
       replace HU := Lib.hid (HU.out.set1 R)
       revert HU
       generalize World.setRow _ _ _ = W4
       intro HU)
    | (refine wpList_store_row rfl 31 _ _ rfl (W1.heap.size + 1) E rfl rfl _ _ HU.out.2.2.2 (HIP.out _ HE.out.1) (by rw [HZP.out, HE.out.1]) HE.out.2.1 ?_
       replace HU := Lib.hid (HU.out.set2 E)
       revert HU
       generalize World.setRow _ _ _ = W5
       intro HU)
    | refine wpList_load_all (by rfl) 25 _ rfl w.heap.size rfl HT.out (HD.out.next HU.out.1).2 Try.underlying25 rfl HIR.out ?_)
  refine (HRI.out _).mono ?_
  rintro e W ⟨rfl, hb⟩
  have PX2 := Lib.hid (At.two HU.out.2.2.1 hb)
  have PY2 := Lib.hid (At.two HU.out.2.2.2 hb)
  replace PX1 := Lib.hid (At.two (At.two PX1.out HU.out.1) hb)
  replace PY1 := Lib.hid (At.two (At.two PY1.out HU.out.1) hb)
  replace HD := Lib.hid ((HD.out.next HU.out.1).next hb)
  clear hb HU
  revert PX2 PY2
  generalize W1.heap.size = b2
  intro PX2 PY2
  clear W1 W5 W4
  go_wp2_with (first
    | refine wpList_load_all (by rfl) 29 _ rfl b1 rfl HR.out PX1.out Try.underlying29 rfl HIB.out ?_
    | refine wpList_load_all (by rfl) 31 _ rfl (b1 + 1) rfl HE.out PY1.out Try.underlying31 rfl HIP.out ?_
    | refine wpList_load_all (by rfl) 29 _ rfl b2 rfl HR.out PX2.out Try.underlying29 rfl HIB.out ?_
    | refine wpList_load_all (by rfl) 31 _ rfl (b2 + 1) rfl HE.out PY2.out Try.underlying31 rfl HIP.out ?_
    | refine wpList_build_parts (by rfl) 29 [] rfl _ rfl HBR.out ?_
    | refine wpList_build_parts (by rfl) 31 [] rfl _ rfl HBE.out ?_)
  go_ret
  exact ⟨rfl, HD.out.1⟩

set_option maxHeartbeats 2000000 in
theorem lostPlays_yes (T : Array Value) (f : Nat → Int) (hT : IsRow 38 f T) (hr : Rt f) (w : World) :
    Calls Try.prog 5 #[.agg T] w fun e w' => e = .returned (.bool true) ∧ Below w.heap.size w w' := by
  obtain ⟨Zp, hZp, _, hzp, hip⟩ := zero_p
  obtain ⟨Zb, hZb, _, hzb, hib⟩ := zero_b
  obtain ⟨Zr, hZr, _, hzr, hir⟩ := zero_r
  obtain ⟨Za, hZa, _, hza, hia⟩ := zero_a
  obtain ⟨E, hE, bE⟩ := built_0 isSt_p
  obtain ⟨R, hR⟩ : ∃ R, IsRow 16 (slF f) R := ⟨_, isRow _ _⟩
  obtain ⟨Q, hQ⟩ : ∃ R, IsRow 38 (nlF f) R := ⟨_, isRow _ _⟩
  have hC := lose_yes hT hr hR hQ
  have HRF := Lib.hid (refLose_as T f hT hr)
  have HRI := Lib.hid (fun w => refRight_any T f true w hT (by simp [hr]))
  have HPL := Lib.hid (fun w => plain_as Q (nlF f) w hQ)
  have e1 := rows_eq hR hR (fun _ _ => rfl) Try.underlying29
  have e2 := st_eq_p hE hE (fun _ _ => rfl)
  have e3 := st_eq_r hQ hQ (fun _ _ => rfl)
  have HG := Lib.hid (gap_of hT hE hC hR hQ)
  have HC := Lib.hid hC
  have HIP := Lib.hid hip
  have HIB := Lib.hid hib
  have HIR := Lib.hid hir
  have HIA := Lib.hid hia
  have HR := Lib.hid hR
  have HE := Lib.hid hE
  have HQ := Lib.hid hQ
  have HBE := Lib.hid bE
  have HT := Lib.hid hT
  have HZB := Lib.hid hZb.1
  have HZP := Lib.hid hZp.1
  have HZA := Lib.hid hZa.1
  have HZR := Lib.hid hZr.1
  have HD := Lib.hid (One.start w T 25)
  clear hip hib hir hia hR hQ hC hE bE hT hZb hZp hZr hZa hr
  go_enter Try.func5, Try.ntmps5
  go_wp2_with fail
  revert HD
  generalize World.alloc _ _ = W
  intro HD
  refine (awake_as W).mono ?_
  rintro e W1 ⟨rfl, hb⟩
  replace HD := Lib.hid (HD.out.next hb)
  clear hb W
  go_wp2_with (refine wpList_load_all (by rfl) 25 _ rfl w.heap.size rfl HT.out HD.out.2 Try.underlying25 rfl HIR.out ?_)
  refine (of_as T f W1 HT.out).mono ?_
  rintro e W ⟨rfl, hb⟩
  replace HD := Lib.hid (HD.out.next hb)
  clear hb W1
  go_wp2_with fail
  refine (HC.out W).mono ?_
  rintro e W1 ⟨rfl, hb⟩
  replace HD := Lib.hid (HD.out.next hb)
  clear hb W
  have HU := Lib.hid (Duo.start (Below.refl W1.heap.size W1) Zb Zp 29 31)
  go_wp2_with (first
    | (refine wpList_store_row rfl 29 _ _ rfl W1.heap.size R rfl rfl _ _ HU.out.2.2.1 (HIB.out _ HR.out.1) (by rw [HZB.out, HR.out.1]) HR.out.2.1 ?_
       replace HU := Lib.hid (HU.out.set1 R)
       revert HU
       generalize World.setRow _ _ _ = W4
       intro HU)
    | (refine wpList_store_row rfl 31 _ _ rfl (W1.heap.size + 1) Q rfl rfl _ _ HU.out.2.2.2 (HIP.out _ HQ.out.1) (by rw [HZP.out, HQ.out.1]) HQ.out.2.1 ?_
       replace HU := Lib.hid (HU.out.set2 Q)
       revert HU
       generalize World.setRow _ _ _ = W5
       intro HU)
    | refine wpList_load_all (by rfl) 25 _ rfl w.heap.size rfl HT.out (HD.out.next HU.out.1).2 Try.underlying25 rfl HIR.out ?_)
  refine (of_as T f _ HT.out).mono ?_
  rintro e W ⟨rfl, hb⟩
  have PX1 := Lib.hid (At.two HU.out.2.2.1 hb)
  have PY1 := Lib.hid (At.two HU.out.2.2.2 hb)
  replace HD := Lib.hid ((HD.out.next HU.out.1).next hb)
  clear hb HU
  revert PX1 PY1
  generalize W1.heap.size = b1
  intro PX1 PY1
  clear W1 W5 W4
  go_wp2_with fail
  refine (HG.out W).mono ?_
  rintro e W1 ⟨rfl, hb⟩
  replace PX1 := Lib.hid (At.two PX1.out hb)
  replace PY1 := Lib.hid (At.two PY1.out hb)
  replace HD := Lib.hid (HD.out.next hb)
  clear hb W
  have HU := Lib.hid (Duo.start (Below.refl W1.heap.size W1) Zb Zp 29 31)
  go_wp2_with (first
    | (refine wpList_store_row rfl 29 _ _ rfl W1.heap.size R rfl rfl _ _ HU.out.2.2.1 (HIB.out _ HR.out.1) (by rw [HZB.out, HR.out.1]) HR.out.2.1 ?_
       replace HU := Lib.hid (HU.out.set1 R)
       revert HU
       generalize World.setRow _ _ _ = W4
       intro HU)
    | (refine wpList_store_row rfl 31 _ _ rfl (W1.heap.size + 1) E rfl rfl _ _ HU.out.2.2.2 (HIP.out _ HE.out.1) (by rw [HZP.out, HE.out.1]) HE.out.2.1 ?_
       replace HU := Lib.hid (HU.out.set2 E)
       revert HU
       generalize World.setRow _ _ _ = W5
       intro HU)
    | refine wpList_load_all (by rfl) 25 _ rfl w.heap.size rfl HT.out (HD.out.next HU.out.1).2 Try.underlying25 rfl HIR.out ?_)
  refine (HRI.out _).mono ?_
  rintro e W ⟨rfl, hb⟩
  have PX2 := Lib.hid (At.two HU.out.2.2.1 hb)
  have PY2 := Lib.hid (At.two HU.out.2.2.2 hb)
  replace PX1 := Lib.hid (At.two (At.two PX1.out HU.out.1) hb)
  replace PY1 := Lib.hid (At.two (At.two PY1.out HU.out.1) hb)
  replace HD := Lib.hid ((HD.out.next HU.out.1).next hb)
  clear hb HU
  revert PX2 PY2
  generalize W1.heap.size = b2
  intro PX2 PY2
  clear W1 W5 W4
  go_wp2_with (refine wpList_load_all (by rfl) 25 _ rfl w.heap.size rfl HT.out HD.out.2 Try.underlying25 rfl HIR.out ?_)
  refine (HRF.out W).mono ?_
  rintro e W1 ⟨⟨R', Q', rfl, hR', hQ'⟩, hb⟩
  obtain rfl := hR'.eq HR.out fun _ _ => rfl
  obtain rfl := hQ'.eq HQ.out fun _ _ => rfl
  replace PX1 := Lib.hid (At.two PX1.out hb)
  replace PY1 := Lib.hid (At.two PY1.out hb)
  replace PX2 := Lib.hid (At.two PX2.out hb)
  replace PY2 := Lib.hid (At.two PY2.out hb)
  replace HD := Lib.hid (HD.out.next hb)
  clear hb hR' hQ' W
  have HU := Lib.hid (Duo.start (Below.refl W1.heap.size W1) Za Zr 22 25)
  go_wp2_with (first
    | (refine wpList_store_row rfl 22 _ _ rfl W1.heap.size R' rfl rfl _ _ HU.out.2.2.1 (HIA.out _ HR.out.1) (by rw [HZA.out, HR.out.1]) HR.out.2.1 ?_
       replace HU := Lib.hid (HU.out.set1 R')
       revert HU
       generalize World.setRow _ _ _ = W4
       intro HU)
    | (refine wpList_store_row rfl 25 _ _ rfl (W1.heap.size + 1) Q' rfl rfl _ _ HU.out.2.2.2 (HIR.out _ HQ.out.1) (by rw [HZR.out, HQ.out.1]) HQ.out.2.1 ?_
       replace HU := Lib.hid (HU.out.set2 Q')
       revert HU
       generalize World.setRow _ _ _ = W5
       intro HU))
  replace PX1 := Lib.hid (At.two PX1.out HU.out.1)
  replace PY1 := Lib.hid (At.two PY1.out HU.out.1)
  replace PX2 := Lib.hid (At.two PX2.out HU.out.1)
  replace PY2 := Lib.hid (At.two PY2.out HU.out.1)
  replace HD := Lib.hid (HD.out.next HU.out.1)
  have PX3 := Lib.hid HU.out.2.2.1
  have PY3 := Lib.hid HU.out.2.2.2
  clear HU
  revert PX3 PY3
  generalize W1.heap.size = b3
  intro PX3 PY3
  clear W1 W4
  refine mv_start fun hS => ?_
  refine mv_yield (i := 0) (d := 49) (.agg R') rfl rfl (by kernel_rfl) (by kernel_rfl) (by kernel_rfl) hS (y_load_part (l := 0) (by rfl) rfl rfl HR.out (fun w' h => (PX1.out).below h (PX1.out).lt) HR.out (by omega) (fun i _ => by first | rw [Nat.zero_add] | rfl) Try.underlying29 rfl (HIB.out _ HR.out.1)) ?_
  simp only [Act.put, List.setIfInBounds_toArray, List.set_cons_zero, List.set_cons_succ]
  refine mv_yield (i := 1) (d := 50) (.agg R') rfl rfl (by kernel_rfl) (by kernel_rfl) (by kernel_rfl) hS (y_load_part (l := 0) (by rfl) rfl rfl HR.out (fun w' h => (PX3.out).below h (PX3.out).lt) HR.out (by omega) (fun i _ => by first | rw [Nat.zero_add] | rfl) Try.underlying22 rfl (HIA.out _ HR.out.1)) ?_
  simp only [Act.put, List.setIfInBounds_toArray, List.set_cons_zero, List.set_cons_succ]
  refine mv_yield (i := 2) (d := 51) (.bool true) rfl rfl (by kernel_rfl) (by kernel_rfl) (by kernel_rfl) hS (y_eql (by rfl) rfl rfl rfl (by kernel_rfl) e1) ?_
  simp only [Act.put, List.setIfInBounds_toArray, List.set_cons_zero, List.set_cons_succ]
  refine mv_yield (i := 3) (d := 52) (.bool true) rfl rfl (by kernel_rfl) (by kernel_rfl) (by kernel_rfl) hS (y_run (by rfl) fun _ => by rfl) ?_
  simp only [Act.put, List.setIfInBounds_toArray, List.set_cons_zero, List.set_cons_succ]
  refine mv_yield (i := 4) (d := 53) (.agg Q') rfl rfl (by kernel_rfl) (by kernel_rfl) (by kernel_rfl) hS (y_load_part (l := 0) (by rfl) rfl rfl HQ.out (fun w' h => (PY1.out).below h (PY1.out).lt) HQ.out (by omega) (fun i _ => by first | rw [Nat.zero_add] | rfl) Try.underlying31 rfl (HIP.out _ HQ.out.1)) ?_
  simp only [Act.put, List.setIfInBounds_toArray, List.set_cons_zero, List.set_cons_succ]
  refine mv_yield (i := 6) (d := 55) (.agg Q') rfl rfl (by kernel_rfl) (by kernel_rfl) (by kernel_rfl) hS (y_load_part (l := 0) (by rfl) rfl rfl HQ.out (fun w' h => (PY3.out).below h (PY3.out).lt) HQ.out (by omega) (fun i _ => by first | rw [Nat.zero_add] | rfl) Try.underlying25 rfl (HIR.out _ HQ.out.1)) ?_
  simp only [Act.put, List.setIfInBounds_toArray, List.set_cons_zero, List.set_cons_succ]
  refine mv_call (i := 5) (d := 54) (v := .agg Q') #[.agg Q'] rfl rfl (by kernel_rfl) (by rfl) rfl hS enter_plain (by kernel_rfl) (HPL.out _) ?_
  clear hS
  rintro w' hS
  simp only [Act.put, List.setIfInBounds_toArray, List.set_cons_zero, List.set_cons_succ]
  refine mv_yield (i := 7) (d := 56) (.bool true) rfl rfl (by kernel_rfl) (by kernel_rfl) (by kernel_rfl) hS (y_eql (by rfl) rfl rfl rfl (by kernel_rfl) e3) ?_
  simp only [Act.put, List.setIfInBounds_toArray, List.set_cons_zero, List.set_cons_succ]
  refine mv_yield (i := 8) (d := 57) (.bool true) rfl rfl (by kernel_rfl) (by kernel_rfl) (by kernel_rfl) hS (y_run (by rfl) fun _ => by rfl) ?_
  simp only [Act.put, List.setIfInBounds_toArray, List.set_cons_zero, List.set_cons_succ]
  refine mv_yield (i := 9) (d := 58) (.bool true) rfl rfl (by kernel_rfl) (by kernel_rfl) (by kernel_rfl) hS (y_run (by rfl) fun _ => by rfl) ?_
  simp only [Act.put, List.setIfInBounds_toArray, List.set_cons_zero, List.set_cons_succ]
  refine mv_yield (i := 10) (d := 59) (.agg R') rfl rfl (by kernel_rfl) (by kernel_rfl) (by kernel_rfl) hS (y_load_part (l := 0) (by rfl) rfl rfl HR.out (fun w' h => (PX2.out).below h (PX2.out).lt) HR.out (by omega) (fun i _ => by first | rw [Nat.zero_add] | rfl) Try.underlying29 rfl (HIB.out _ HR.out.1)) ?_
  simp only [Act.put, List.setIfInBounds_toArray, List.set_cons_zero, List.set_cons_succ]
  refine mv_yield (i := 11) (d := 60) (.agg R') rfl rfl (by kernel_rfl) (by kernel_rfl) (by kernel_rfl) hS (y_load_part (l := 0) (by rfl) rfl rfl HR.out (fun w' h => (PX1.out).below h (PX1.out).lt) HR.out (by omega) (fun i _ => by first | rw [Nat.zero_add] | rfl) Try.underlying29 rfl (HIB.out _ HR.out.1)) ?_
  simp only [Act.put, List.setIfInBounds_toArray, List.set_cons_zero, List.set_cons_succ]
  refine mv_yield (i := 12) (d := 61) (.bool true) rfl rfl (by kernel_rfl) (by kernel_rfl) (by kernel_rfl) hS (y_eql (by rfl) rfl rfl rfl (by kernel_rfl) e1) ?_
  simp only [Act.put, List.setIfInBounds_toArray, List.set_cons_zero, List.set_cons_succ]
  refine mv_yield (i := 13) (d := 62) (.bool true) rfl rfl (by kernel_rfl) (by kernel_rfl) (by kernel_rfl) hS (y_run (by rfl) fun _ => by rfl) ?_
  simp only [Act.put, List.setIfInBounds_toArray, List.set_cons_zero, List.set_cons_succ]
  refine mv_yield (i := 14) (d := 63) (.bool true) rfl rfl (by kernel_rfl) (by kernel_rfl) (by kernel_rfl) hS (y_run (by rfl) fun _ => by rfl) ?_
  simp only [Act.put, List.setIfInBounds_toArray, List.set_cons_zero, List.set_cons_succ]
  refine mv_yield (i := 15) (d := 64) (.agg E) rfl rfl (by kernel_rfl) (by kernel_rfl) (by kernel_rfl) hS (y_load_part (l := 0) (by rfl) rfl rfl HE.out (fun w' h => (PY2.out).below h (PY2.out).lt) HE.out (by omega) (fun i _ => by first | rw [Nat.zero_add] | rfl) Try.underlying31 rfl (HIP.out _ HE.out.1)) ?_
  simp only [Act.put, List.setIfInBounds_toArray, List.set_cons_zero, List.set_cons_succ]
  refine mv_yield (i := 16) (d := 65) (.agg E) rfl rfl (by kernel_rfl) (by kernel_rfl) (by kernel_rfl) hS (y_build_parts (L := []) (by rfl) rfl _ rfl HBE.out) ?_
  simp only [Act.put, List.setIfInBounds_toArray, List.set_cons_zero, List.set_cons_succ]
  refine mv_yield (i := 17) (d := 66) (.bool true) rfl rfl (by kernel_rfl) (by kernel_rfl) (by kernel_rfl) hS (y_eql (by rfl) rfl rfl rfl (by kernel_rfl) e2) ?_
  simp only [Act.put, List.setIfInBounds_toArray, List.set_cons_zero, List.set_cons_succ]
  refine mv_yield (i := 18) (d := 67) (.bool true) rfl rfl (by kernel_rfl) (by kernel_rfl) (by kernel_rfl) hS (y_run (by rfl) fun _ => by rfl) ?_
  simp only [Act.put, List.setIfInBounds_toArray, List.set_cons_zero, List.set_cons_succ]
  refine mv_yield (i := 19) (d := 2) (.bool true) rfl rfl (by kernel_rfl) (by kernel_rfl) (by kernel_rfl) hS (y_run (by rfl) fun _ => by rfl) ?_
  simp only [Act.put, List.setIfInBounds_toArray, List.set_cons_zero, List.set_cons_succ]
  refine mv_done (by kernel_rfl) ?_
  have HB := Lib.hid (below_trans HD.out.1 hS HD.out.1.size)
  clear hS
  go_wp2_with fail
  go_ret
  exact ⟨rfl, HB.out⟩

theorem lostPlays_walk (T : Array Value) (f : Nat → Int) (hT : IsRow 38 f T) (w : World) :
    Calls Try.prog 5 #[.agg T] w fun e w' => e = .returned (.bool true) ∧ Below w.heap.size w w' := by
  by_cases h : Rt f
  · exact lostPlays_yes T f hT h w
  · exact lostPlays_no T f hT h w
end Go.Proofs.Ytfpmajlgbipbmaa.Lo
