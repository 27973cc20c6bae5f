/- LostGaps. Written by g37.py. -/
import Derived.Test.YtfpmajlgbipbmaaLoE
import Derived.Test.YtfpmajlgbipbmaaBksY
set_option maxRecDepth 100000
set_option linter.unusedVariables false
namespace Go.Proofs.Ytfpmajlgbipbmaa.Lo
open Go.RowKit Go.Proofs.Ytfpmajlgbipbmaa.Row Go.Proofs.Ytfpmajlgbipbmaa.Md Go.Proofs.Ytfpmajlgbipbmaa.Tl Go.Proofs.Ytfpmajlgbipbmaa.Sta

set_option maxHeartbeats 2000000 in
theorem lostGaps_walk (T1 T2 : Array Value) (f1 f2 : Nat → Int) (hT1 : IsRow 38 f1 T1) (hT2 : IsRow 38 f2 T2) (w : World) :
    Calls Try.prog 7 #[.agg T1, .agg T2] w fun e w' => e = .returned (.bool true) ∧ Below w.heap.size w w' := by
  obtain ⟨Zp, hZp, _, hzp, hip⟩ := zero_p
  obtain ⟨Zb, hZb, _, hzb, hib⟩ := zero_b
  obtain ⟨_, _, _, _, hir⟩ := zero_r
  obtain ⟨E, hE, bE⟩ := built_0 isSt_p
  obtain ⟨R1, Q1, h1, g1, hR1, hQ1, hC1⟩ := lose_any hT1
  obtain ⟨R2, Q2, h2, g2, hR2, hQ2, hC2⟩ := lose_any hT2
  have e1 := rows_eq hR1 hR1 (fun _ _ => rfl) Try.underlying29
  have e2 := st_eq_p hE hE (fun _ _ => rfl)
  have HG1 := Lib.hid (gap_of hT1 hE hC1 hR1 hQ1)
  have HG2 := Lib.hid (gap_of hT2 hE hC2 hR2 hQ2)
  have HU1 := Lib.hid (run_one hT1 hR1 hQ1 hC1)
  have HC1 := Lib.hid hC1
  have HIP := Lib.hid hip
  have HIB := Lib.hid hib
  have HIR := Lib.hid hir
  have HR1 := Lib.hid hR1
  have HR2 := Lib.hid hR2
  have HQ1 := Lib.hid hQ1
  have HE := Lib.hid hE
  have HBE := Lib.hid bE
  have HT1 := Lib.hid hT1
  have HT2 := Lib.hid hT2
  have HZB := Lib.hid hZb.1
  have HZP := Lib.hid hZp.1
  have HD := Lib.hid (Duo.start (Below.refl w.heap.size w) T1 T2 25 25)
  clear hip hib hir hR1 hR2 hQ1 hQ2 hC1 hC2 hE bE hT1 hT2 hZb hZp
  go_enter Try.func7, Try.ntmps7
  go_wp2_with fail
  revert HD
  generalize World.alloc _ _ = W
  intro HD
  refine (awake_as W).mono ?_
  rintro e W1 ⟨rfl, hb⟩
  replace HD := Lib.hid (HD.out.next hb)
  clear hb W
  go_wp2_with (refine wpList_load_all (by rfl) 25 _ rfl w.heap.size rfl HT1.out HD.out.2.2.1 Try.underlying25 rfl HIR.out ?_)
  refine (of_as T1 f1 W1 HT1.out).mono ?_
  rintro e W ⟨rfl, hb⟩
  replace HD := Lib.hid (HD.out.next hb)
  clear hb W1
  go_wp2_with fail
  refine (HG1.out W).mono ?_
  rintro e W1 ⟨rfl, hb⟩
  replace HD := Lib.hid (HD.out.next hb)
  clear hb W
  have HU := Lib.hid (Duo.start (Below.refl W1.heap.size W1) Zb Zp 29 31)
  go_wp2_with (first
    | (refine wpList_store_row rfl 29 _ _ rfl W1.heap.size R1 rfl rfl _ _ HU.out.2.2.1 (HIB.out _ HR1.out.1) (by rw [HZB.out, HR1.out.1]) HR1.out.2.1 ?_
       replace HU := Lib.hid (HU.out.set1 R1)
       revert HU
       generalize World.setRow _ _ _ = W4
       intro HU)
    | (refine wpList_store_row rfl 31 _ _ rfl (W1.heap.size + 1) E rfl rfl _ _ HU.out.2.2.2 (HIP.out _ HE.out.1) (by rw [HZP.out, HE.out.1]) HE.out.2.1 ?_
       replace HU := Lib.hid (HU.out.set2 E)
       revert HU
       generalize World.setRow _ _ _ = W5
       intro HU)
    | refine wpList_load_all (by rfl) 25 _ rfl (w.heap.size + 1) rfl HT2.out (HD.out.next HU.out.1).2.2.2 Try.underlying25 rfl HIR.out ?_)
  refine (of_as T2 f2 _ HT2.out).mono ?_
  rintro e W ⟨rfl, hb⟩
  have PX1 := Lib.hid (At.two HU.out.2.2.1 hb)
  have PY1 := Lib.hid (At.two HU.out.2.2.2 hb)
  replace HD := Lib.hid ((HD.out.next HU.out.1).next hb)
  clear hb HU
  revert PX1 PY1
  generalize W1.heap.size = b1
  intro PX1 PY1
  clear W1 W5 W4
  go_wp2_with fail
  refine (HG2.out W).mono ?_
  rintro e W1 ⟨rfl, hb⟩
  replace HD := Lib.hid (HD.out.next hb)
  replace PX1 := Lib.hid (At.two PX1.out hb)
  replace PY1 := Lib.hid (At.two PY1.out hb)
  clear hb W
  have HU := Lib.hid (Duo.start (Below.refl W1.heap.size W1) Zb Zp 29 31)
  go_wp2_with (first
    | (refine wpList_store_row rfl 29 _ _ rfl W1.heap.size R2 rfl rfl _ _ HU.out.2.2.1 (HIB.out _ HR2.out.1) (by rw [HZB.out, HR2.out.1]) HR2.out.2.1 ?_
       replace HU := Lib.hid (HU.out.set1 R2)
       revert HU
       generalize World.setRow _ _ _ = W4
       intro HU)
    | (refine wpList_store_row rfl 31 _ _ rfl (W1.heap.size + 1) E rfl rfl _ _ HU.out.2.2.2 (HIP.out _ HE.out.1) (by rw [HZP.out, HE.out.1]) HE.out.2.1 ?_
       replace HU := Lib.hid (HU.out.set2 E)
       revert HU
       generalize World.setRow _ _ _ = W5
       intro HU)
    | refine wpList_load_all (by rfl) 25 _ rfl (w.heap.size) rfl HT1.out (HD.out.next HU.out.1).2.2.1 Try.underlying25 rfl HIR.out ?_)
  refine (of_as T1 f1 _ HT1.out).mono ?_
  rintro e W ⟨rfl, hb⟩
  have PY2 := Lib.hid (At.two HU.out.2.2.2 hb)
  replace PX1 := Lib.hid (At.two (At.two PX1.out HU.out.1) hb)
  replace PY1 := Lib.hid (At.two (At.two PY1.out HU.out.1) hb)
  replace HD := Lib.hid ((HD.out.next HU.out.1).next hb)
  clear hb HU
  revert PY2
  generalize W1.heap.size = b2
  intro PY2
  clear W1 W5 W4
  go_wp2_with fail
  refine (HC1.out W).mono ?_
  rintro e W1 ⟨rfl, hb⟩
  replace HD := Lib.hid (HD.out.next hb)
  replace PX1 := Lib.hid (At.two PX1.out hb)
  replace PY1 := Lib.hid (At.two PY1.out hb)
  replace PY2 := Lib.hid (At.two PY2.out hb)
  clear hb W
  have HU := Lib.hid (Duo.start (Below.refl W1.heap.size W1) Zb Zp 29 31)
  go_wp2_with (first
    | (refine wpList_store_row rfl 29 _ _ rfl W1.heap.size R1 rfl rfl _ _ HU.out.2.2.1 (HIB.out _ HR1.out.1) (by rw [HZB.out, HR1.out.1]) HR1.out.2.1 ?_
       replace HU := Lib.hid (HU.out.set1 R1)
       revert HU
       generalize World.setRow _ _ _ = W4
       intro HU)
    | (refine wpList_store_row rfl 31 _ _ rfl (W1.heap.size + 1) Q1 rfl rfl _ _ HU.out.2.2.2 (HIP.out _ HQ1.out.1) (by rw [HZP.out, HQ1.out.1]) HQ1.out.2.1 ?_
       replace HU := Lib.hid (HU.out.set2 Q1)
       revert HU
       generalize World.setRow _ _ _ = W5
       intro HU)
    | refine wpList_load_all (by rfl) 25 _ rfl (w.heap.size) rfl HT1.out (HD.out.next HU.out.1).2.2.1 Try.underlying25 rfl HIR.out ?_)
  refine (of_as T1 f1 _ HT1.out).mono ?_
  rintro e W ⟨rfl, hb⟩
  have PX3 := Lib.hid (At.two HU.out.2.2.1 hb)
  replace PX1 := Lib.hid (At.two (At.two PX1.out HU.out.1) hb)
  replace PY1 := Lib.hid (At.two (At.two PY1.out HU.out.1) hb)
  replace PY2 := Lib.hid (At.two (At.two PY2.out HU.out.1) hb)
  replace HD := Lib.hid ((HD.out.next HU.out.1).next hb)
  clear hb HU
  revert PX3
  generalize W1.heap.size = b3
  intro PX3
  clear W1 W5 W4
  go_wp2_with fail
  refine (HU1.out W).mono ?_
  rintro e W1 ⟨a, c, Q, rfl, hQ, hBK, hb⟩
  obtain ⟨g, rfl, hx1, hx2⟩ := hBK.addr (by omega)
  clear hx1 hx2
  have HQ := Lib.hid hQ.1
  have HQ2 := Lib.hid hQ.2.1
  have HBK := Lib.hid hBK
  replace PX1 := Lib.hid (At.two PX1.out hb)
  replace PY1 := Lib.hid (At.two PY1.out hb)
  replace PY2 := Lib.hid (At.two PY2.out hb)
  replace PX3 := Lib.hid (At.two PX3.out hb)
  replace HD := Lib.hid (HD.out.next hb)
  clear hb hQ hBK
  go_wp2_with (
    (refine wpList_store_row rfl 31 _ _ rfl W1.heap.size Q rfl rfl _ _ (heap_alloc_new _ _) (HIP.out _ HQ.out) (by rw [HZP.out, HQ.out]) HQ2.out ?_; rw [World.setRow_alloc_new]))
  have hb := (Below.refl W1.heap.size W1).alloc (Nat.le_refl _) (.cells Q 31)
  replace PX1 := Lib.hid (At.two PX1.out hb)
  replace PY1 := Lib.hid (At.two PY1.out hb)
  replace PY2 := Lib.hid (At.two PY2.out hb)
  replace PX3 := Lib.hid (At.two PX3.out hb)
  replace HBK := Lib.hid (HBK.out.below hb)
  replace HD := Lib.hid (HD.out.next hb)
  clear hb
  revert PX1 PY1 PY2 PX3 HBK HD
  generalize W1.heap.size = b4
  generalize World.alloc _ _ = W5
  intro PX1 PY1 PY2 PX3 HBK HD
  clear W1
  refine mv_start fun hS => ?_
  refine mv_yield (i := 0) (d := 39) (.agg E) rfl rfl (by kernel_rfl) (by kernel_rfl) (by kernel_rfl) hS (y_load_part (l := 0) (by rfl) rfl rfl HE.out (fun w' h => (PY1.out).below h (PY1.out).lt) HE.out (by omega) (fun i _ => by first | rfl | rw [Nat.zero_add]) Try.underlying31 rfl (HIP.out _ HE.out.1)) ?_
  simp only [Act.put, List.setIfInBounds_toArray, List.set_cons_zero, List.set_cons_succ]
  refine mv_yield (i := 1) (d := 40) (.agg E) rfl rfl (by kernel_rfl) (by kernel_rfl) (by kernel_rfl) hS (y_load_part (l := 0) (by rfl) rfl rfl HE.out (fun w' h => (PY2.out).below h (PY2.out).lt) HE.out (by omega) (fun i _ => by first | rfl | rw [Nat.zero_add]) Try.underlying31 rfl (HIP.out _ HE.out.1)) ?_
  simp only [Act.put, List.setIfInBounds_toArray, List.set_cons_zero, List.set_cons_succ]
  refine mv_yield (i := 2) (d := 41) (.bool true) rfl rfl (by kernel_rfl) (by kernel_rfl) (by kernel_rfl) hS (y_eql (by rfl) rfl rfl rfl (by kernel_rfl) e2) ?_
  simp only [Act.put, List.setIfInBounds_toArray, List.set_cons_zero, List.set_cons_succ]
  refine mv_yield (i := 3) (d := 42) (.bool true) rfl rfl (by kernel_rfl) (by kernel_rfl) (by kernel_rfl) hS (y_run (by rfl) fun _ => by rfl) ?_
  simp only [Act.put, List.setIfInBounds_toArray, List.set_cons_zero, List.set_cons_succ]
  refine mv_yield (i := 4) (d := 43) (.agg E) rfl rfl (by kernel_rfl) (by kernel_rfl) (by kernel_rfl) hS (y_load_part (l := 0) (by rfl) rfl rfl HE.out (fun w' h => (PY1.out).below h (PY1.out).lt) HE.out (by omega) (fun i _ => by first | rfl | rw [Nat.zero_add]) Try.underlying31 rfl (HIP.out _ HE.out.1)) ?_
  simp only [Act.put, List.setIfInBounds_toArray, List.set_cons_zero, List.set_cons_succ]
  refine mv_yield (i := 5) (d := 44) (.agg E) rfl rfl (by kernel_rfl) (by kernel_rfl) (by kernel_rfl) hS (y_build_parts (L := []) (by rfl) rfl _ rfl HBE.out) ?_
  simp only [Act.put, List.setIfInBounds_toArray, List.set_cons_zero, List.set_cons_succ]
  refine mv_yield (i := 6) (d := 45) (.bool true) rfl rfl (by kernel_rfl) (by kernel_rfl) (by kernel_rfl) hS (y_eql (by rfl) rfl rfl rfl (by kernel_rfl) e2) ?_
  simp only [Act.put, List.setIfInBounds_toArray, List.set_cons_zero, List.set_cons_succ]
  refine mv_yield (i := 7) (d := 46) (.bool true) rfl rfl (by kernel_rfl) (by kernel_rfl) (by kernel_rfl) hS (y_run (by rfl) fun _ => by rfl) ?_
  simp only [Act.put, List.setIfInBounds_toArray, List.set_cons_zero, List.set_cons_succ]
  refine mv_yield (i := 8) (d := 47) (.bool true) rfl rfl (by kernel_rfl) (by kernel_rfl) (by kernel_rfl) hS (y_run (by rfl) fun _ => by rfl) ?_
  simp only [Act.put, List.setIfInBounds_toArray, List.set_cons_zero, List.set_cons_succ]
  refine mv_yield (i := 9) (d := 48) (.agg R1) rfl rfl (by kernel_rfl) (by kernel_rfl) (by kernel_rfl) hS (y_load_part (l := 0) (by rfl) rfl rfl HR1.out (fun w' h => (PX1.out).below h (PX1.out).lt) HR1.out (by omega) (fun i _ => by first | rfl | rw [Nat.zero_add]) Try.underlying29 rfl (HIB.out _ HR1.out.1)) ?_
  simp only [Act.put, List.setIfInBounds_toArray, List.set_cons_zero, List.set_cons_succ]
  refine mv_yield (i := 10) (d := 49) (.agg R1) rfl rfl (by kernel_rfl) (by kernel_rfl) (by kernel_rfl) hS (y_load_part (l := 0) (by rfl) rfl rfl HR1.out (fun w' h => (PX3.out).below h (PX3.out).lt) HR1.out (by omega) (fun i _ => by first | rfl | rw [Nat.zero_add]) Try.underlying29 rfl (HIB.out _ HR1.out.1)) ?_
  simp only [Act.put, List.setIfInBounds_toArray, List.set_cons_zero, List.set_cons_succ]
  refine mv_yield (i := 11) (d := 50) (.bool true) rfl rfl (by kernel_rfl) (by kernel_rfl) (by kernel_rfl) hS (y_eql (by rfl) rfl rfl rfl (by kernel_rfl) e1) ?_
  simp only [Act.put, List.setIfInBounds_toArray, List.set_cons_zero, List.set_cons_succ]
  refine mv_yield (i := 12) (d := 51) (.bool true) rfl rfl (by kernel_rfl) (by kernel_rfl) (by kernel_rfl) hS (y_run (by rfl) fun _ => by rfl) ?_
  simp only [Act.put, List.setIfInBounds_toArray, List.set_cons_zero, List.set_cons_succ]
  refine mv_yield (i := 13) (d := 52) (.bool true) rfl rfl (by kernel_rfl) (by kernel_rfl) (by kernel_rfl) hS (y_run (by rfl) fun _ => by rfl) ?_
  simp only [Act.put, List.setIfInBounds_toArray, List.set_cons_zero, List.set_cons_succ]
  refine mv_yield (i := 14) (d := 53) (.slice (some ⟨g, 0, none⟩) 1 c) rfl rfl (by kernel_rfl) (by kernel_rfl) (by kernel_rfl) hS (y_run (by rfl) fun _ => by rfl) ?_
  simp only [Act.put, List.setIfInBounds_toArray, List.set_cons_zero, List.set_cons_succ]
  refine mv_yield (i := 15) (d := 54) (.int .i64 1) rfl rfl (by kernel_rfl) (by kernel_rfl) (by kernel_rfl) hS (y_len (by rfl) rfl Try.underlying28 rfl) ?_
  simp only [Act.put, List.setIfInBounds_toArray, List.set_cons_zero, List.set_cons_succ]
  refine mv_yield (i := 16) (d := 55) (.bool true) rfl rfl (by kernel_rfl) (by kernel_rfl) (by kernel_rfl) hS (y_eqi2 (by rfl) rfl rfl rfl rfl) ?_
  simp only [Act.put, List.setIfInBounds_toArray, List.set_cons_zero, List.set_cons_succ]
  refine mv_yield (i := 17) (d := 56) (.bool true) rfl rfl (by kernel_rfl) (by kernel_rfl) (by kernel_rfl) hS (y_run (by rfl) fun _ => by rfl) ?_
  simp only [Act.put, List.setIfInBounds_toArray, List.set_cons_zero, List.set_cons_succ]
  refine mv_yield (i := 18) (d := 57) (.bool true) rfl rfl (by kernel_rfl) (by kernel_rfl) (by kernel_rfl) hS (y_run (by rfl) fun _ => by rfl) ?_
  simp only [Act.put, List.setIfInBounds_toArray, List.set_cons_zero, List.set_cons_succ]
  refine mv_yield (i := 19) (d := 58) (.slice (some ⟨g, 0, none⟩) 1 c) rfl rfl (by kernel_rfl) (by kernel_rfl) (by kernel_rfl) hS (y_run (by rfl) fun _ => by rfl) ?_
  simp only [Act.put, List.setIfInBounds_toArray, List.set_cons_zero, List.set_cons_succ]
  refine mv_yield (i := 20) (d := 59) (.pointer (some ⟨g, (0 * 16), none⟩)) rfl rfl (by kernel_rfl) (by kernel_rfl) (by kernel_rfl) hS (y_bx (k := 0) (by rfl) rfl rfl rfl rfl (by omega)) ?_
  simp only [Act.put, List.setIfInBounds_toArray, List.set_cons_zero, List.set_cons_succ]
  refine mv_yield (i := 21) (d := 60) (.agg R1) rfl rfl (by kernel_rfl) (by kernel_rfl) (by kernel_rfl) hS (y_load_range (by rfl) rfl rfl (fun w' h => Bks.range (HBK.out.below h) (by omega) HR1.out) Try.underlying29 rfl (HIB.out _ HR1.out.1)) ?_
  simp only [Act.put, List.setIfInBounds_toArray, List.set_cons_zero, List.set_cons_succ]
  refine mv_yield (i := 22) (d := 61) (.agg R1) rfl rfl (by kernel_rfl) (by kernel_rfl) (by kernel_rfl) hS (y_load_part (l := 0) (by rfl) rfl rfl HR1.out (fun w' h => (PX1.out).below h (PX1.out).lt) HR1.out (by omega) (fun i _ => by first | rfl | rw [Nat.zero_add]) Try.underlying29 rfl (HIB.out _ HR1.out.1)) ?_
  simp only [Act.put, List.setIfInBounds_toArray, List.set_cons_zero, List.set_cons_succ]
  refine mv_yield (i := 23) (d := 62) (.bool true) rfl rfl (by kernel_rfl) (by kernel_rfl) (by kernel_rfl) hS (y_eql (by rfl) rfl rfl rfl (by kernel_rfl) e1) ?_
  simp only [Act.put, List.setIfInBounds_toArray, List.set_cons_zero, List.set_cons_succ]
  refine mv_yield (i := 24) (d := 63) (.bool true) rfl rfl (by kernel_rfl) (by kernel_rfl) (by kernel_rfl) hS (y_run (by rfl) fun _ => by rfl) ?_
  simp only [Act.put, List.setIfInBounds_toArray, List.set_cons_zero, List.set_cons_succ]
  refine mv_yield (i := 25) (d := 4) (.bool true) rfl rfl (by kernel_rfl) (by kernel_rfl) (by kernel_rfl) hS (y_run (by rfl) fun _ => by rfl) ?_
  simp only [Act.put, List.setIfInBounds_toArray, List.set_cons_zero, List.set_cons_succ]
  refine mv_done (by kernel_rfl) ?_
  have HB := Lib.hid (below_trans HD.out.1 hS HD.out.1.size)
  clear hS
  go_wp2_with fail
  go_ret
  exact ⟨rfl, HB.out⟩
end Go.Proofs.Ytfpmajlgbipbmaa.Lo
