/- LostRuns. Written by g42.py. -/
import Derived.Test.YtfpmajlgbipbmaaLoF
import Derived.Test.YtfpmajlgbipbmaaBksY
set_option maxRecDepth 100000
set_option linter.unusedVariables false
namespace Go.Proofs.Ytfpmajlgbipbmaa.Lo
open Go.RowKit Go.Proofs.Ytfpmajlgbipbmaa.Row Go.Proofs.Ytfpmajlgbipbmaa.Md Go.Proofs.Ytfpmajlgbipbmaa.Tl Go.Proofs.Ytfpmajlgbipbmaa.Sta

set_option maxHeartbeats 2000000 in
theorem lostRuns_no (T : Array Value) (f : Nat → Int) (z y : Int) (hT : IsRow 38 f T) (hr : ¬ Rt f) (w : World) :
    Calls Try.prog 4 #[.agg T, .int .u8 z, .int .u8 y] w fun e w' => e = .returned (.bool true) ∧ Below w.heap.size w w' := by
  obtain ⟨_, _, _, _, hir⟩ := zero_r
  have HRI := Lib.hid (fun w => refRight_any T f false w hT (by simp [hr]))
  have HIR := Lib.hid hir
  have HT := Lib.hid hT
  have HD := Lib.hid (One.start w T 25)
  clear hir hT hr
  go_enter Try.func4, Try.ntmps4
  go_wp2_with fail
  revert HD
  generalize World.alloc _ _ = W
  intro HD
  refine (awake_as W).mono ?_
  rintro e W1 ⟨rfl, hb⟩
  replace HD := Lib.hid (HD.out.next hb)
  clear hb W
  go_wp2_with (refine wpList_load_all (by rfl) 25 _ rfl w.heap.size rfl HT.out HD.out.2 Try.underlying25 rfl HIR.out ?_)
  refine (HRI.out W1).mono ?_
  rintro e W ⟨rfl, hb⟩
  replace HD := Lib.hid (HD.out.next hb)
  clear hb W1
  go_wp2_with fail
  refine (awake_as W).mono ?_
  rintro e W1 ⟨rfl, hb⟩
  replace HD := Lib.hid (HD.out.next hb)
  clear hb
  go_wp2_with fail
  go_ret
  exact ⟨rfl, HD.out.1⟩

set_option maxHeartbeats 2000000 in
theorem lostRuns_in (T : Array Value) (f : Nat → Int) (z y : Int) (hT : IsRow 38 f T) (hr : Rt f) (hz0 : 0 ≤ z) (hz1 : z ≤ 255) (hy0 : 0 ≤ y) (hy1 : y ≤ 255) (w : World) :
    Calls Try.prog 4 #[.agg T, .int .u8 z, .int .u8 y] w fun e w' => e = .returned (.bool true) ∧ Below w.heap.size w w' := by
  obtain ⟨Zp, hZp, _, hzp, hip⟩ := zero_p
  obtain ⟨_, _, _, _, hir⟩ := zero_r
  have HRI := Lib.hid (fun w => refRight_any T f true w hT (by simp [hr]))
  have HIR := Lib.hid hir
  have HIP := Lib.hid hip
  have HZP := Lib.hid hZp.1
  have HT := Lib.hid hT
  have HRT := Lib.hid hr
  have HD := Lib.hid (One.start w T 25)
  obtain ⟨_, _, _, _, hib⟩ := zero_b
  have HIB := Lib.hid hib
  obtain ⟨I, hI⟩ : ∃ N : Nat, z % 20 = N := ⟨(z % 20).toNat, by have := Int.emod_nonneg z (show (20 : Int) ≠ 0 by omega); omega⟩
  obtain ⟨J, hJ⟩ : ∃ N : Nat, y % 20 = N := ⟨(y % 20).toNat, by have := Int.emod_nonneg y (show (20 : Int) ≠ 0 by omega); omega⟩
  have hI20 : I < 20 := by have := Int.emod_lt_of_pos z (show (0 : Int) < 20 by omega); omega
  have hJ20 : J < 20 := by have := Int.emod_lt_of_pos y (show (0 : Int) < 20 by omega); omega
  have htz : z.tmod 20 = I := by rw [Int.tmod_eq_emod_of_nonneg hz0]; exact hI
  have hty : y.tmod 20 = J := by rw [Int.tmod_eq_emod_of_nonneg hy0]; exact hJ
  obtain ⟨K, hK⟩ : ∃ K, I + J = K := ⟨_, rfl⟩
  have hw : wrap64 ((I : Int) + J) = K := by rw [IntWalk.wrap64_in _ (by omega)]; omega
  have HIJ := Lib.hid (show (I : Int) + J = K by omega)
  have HAD := Lib.hid (show IntKind.i64.wrap ((I : Int) + J) = K by rw [wr64]; exact hw)
  have hng : wrap64 (-(I : Int)) = -I := IntWalk.wrap64_in _ (by omega)
  have HR1 := Lib.hid (run_yes (n := (I : Int)) rfl (by omega) hT hr)
  have HR3 := Lib.hid (run_yes (n := (K : Int)) rfl (by omega) hT hr)
  have HR4 := Lib.hid (run_none (n := -(I : Int)) (by omega) hT)
  have HK := Lib.hid hK
  have HI20 := Lib.hid hI20
  have HJ20 := Lib.hid hJ20
  clear hir hip hib hZp hT hr hK hI20 hJ20
  go_enter Try.func4, Try.ntmps4
  go_wp2_with fail
  revert HD
  generalize World.alloc _ _ = W
  intro HD
  refine (awake_as W).mono ?_
  rintro e W1 ⟨rfl, hb⟩
  replace HD := Lib.hid (HD.out.next hb)
  clear hb W
  go_wp2_with (refine wpList_load_all (by rfl) 25 _ rfl w.heap.size rfl HT.out HD.out.2 Try.underlying25 rfl HIR.out ?_)
  refine (HRI.out W1).mono ?_
  rintro e W ⟨rfl, hb⟩
  replace HD := Lib.hid (HD.out.next hb)
  clear hb W1
  go_wp2_with (refine wpList_load_all (by rfl) 25 _ rfl w.heap.size rfl HT.out HD.out.2 Try.underlying25 rfl HIR.out ?_)
  refine (of_as T f _ HT.out).mono ?_
  rintro e W1 ⟨rfl, hb⟩
  replace HD := Lib.hid (HD.out.next hb)
  clear hb W
  go_wp2_with fail
  refine (HR1.out W1).mono ?_
  rintro e W ⟨a, ca, Q1, rfl, hQ, hBK, hb⟩
  have HQ1 := Lib.hid hQ
  have HBa := Lib.hid (hBK.wide (Nat.zero_le _))
  replace HD := Lib.hid (HD.out.next hb)
  clear hb hQ hBK HR1 W1
  go_wp2_with (first
    | (refine wpList_store_row rfl 31 _ _ rfl W.heap.size Q1 rfl rfl _ _ (heap_alloc_new _ _) (HIP.out _ HQ1.out.1) (by rw [HZP.out, HQ1.out.1]) HQ1.out.2.1 ?_; rw [World.setRow_alloc_new]
       have hb := (Below.refl W.heap.size W).alloc (Nat.le_refl _) (.cells Q1 31)
       replace HD := Lib.hid (HD.out.next hb)
       replace HBa := Lib.hid (HBa.out.below hb)
       have P1 := Lib.hid (At.new W Q1 31)
       clear hb
       revert HD HBa P1
       generalize W.heap.size = b1
       generalize World.alloc _ _ = W5
       intro HD HBa P1
       clear W)
    | refine wpList_load_all (by rfl) 31 _ rfl b1 rfl HQ1.out P1.out Try.underlying31 rfl HIP.out ?_)
  have HR2 := Lib.hid (run_yes (n := (J : Int)) rfl (by have := HJ20.out; omega) HQ1.out (st_right HRT.out I))
  obtain ⟨W1, hW1⟩ : ∃ W1, W5 = W1 := ⟨_, rfl⟩
  rw [hW1] at HD HBa P1 ⊢
  clear hW1 W5
  refine (HR2.out W1).mono ?_
  rintro e W ⟨b, cb, Q2, rfl, hQ, hBK, hb⟩
  have HQ2 := Lib.hid hQ
  have HBb := Lib.hid (hBK.wide (Nat.zero_le _))
  replace HD := Lib.hid (HD.out.next hb)
  replace P1 := Lib.hid (At.two P1.out hb)
  replace HBa := Lib.hid (HBa.out.below hb)
  clear hb hQ hBK HR2 W1
  go_wp2_with (first
    | (refine wpList_store_row rfl 31 _ _ rfl W.heap.size Q2 rfl rfl _ _ (heap_alloc_new _ _) (HIP.out _ HQ2.out.1) (by rw [HZP.out, HQ2.out.1]) HQ2.out.2.1 ?_; rw [World.setRow_alloc_new]
       have hb := (Below.refl W.heap.size W).alloc (Nat.le_refl _) (.cells Q2 31)
       replace HD := Lib.hid (HD.out.next hb)
       replace P1 := Lib.hid (At.two P1.out hb)
       replace HBa := Lib.hid (HBa.out.below hb)
       replace HBb := Lib.hid (HBb.out.below hb)
       have P2 := Lib.hid (At.new W Q2 31)
       clear hb
       revert HD P1 HBa HBb P2
       generalize W.heap.size = b2
       generalize World.alloc _ _ = W5
       intro HD P1 HBa HBb P2
       clear W)
    | refine wpList_load_all (by rfl) 25 _ rfl w.heap.size rfl HT.out HD.out.2 Try.underlying25 rfl HIR.out ?_)
  refine (of_as T f _ HT.out).mono ?_
  rintro e W1 ⟨rfl, hb⟩
  replace HD := Lib.hid (HD.out.next hb)
  replace P1 := Lib.hid (At.two P1.out hb)
  replace P2 := Lib.hid (At.two P2.out hb)
  replace HBa := Lib.hid (HBa.out.below hb)
  replace HBb := Lib.hid (HBb.out.below hb)
  clear hb W5
  go_wp2_with fail
  rw [HIJ.out]
  refine (HR3.out W1).mono ?_
  rintro e W ⟨c, cc, Q3, rfl, hQ, hBK, hb⟩
  have HQ3 := Lib.hid hQ
  have HBc := Lib.hid (hBK.wide (Nat.zero_le _))
  replace HD := Lib.hid (HD.out.next hb)
  replace P1 := Lib.hid (At.two P1.out hb)
  replace P2 := Lib.hid (At.two P2.out hb)
  replace HBa := Lib.hid (HBa.out.below hb)
  replace HBb := Lib.hid (HBb.out.below hb)
  clear hb hQ hBK HR3 W1
  go_wp2_with (first
    | (refine wpList_store_row rfl 31 _ _ rfl W.heap.size Q3 rfl rfl _ _ (heap_alloc_new _ _) (HIP.out _ HQ3.out.1) (by rw [HZP.out, HQ3.out.1]) HQ3.out.2.1 ?_; rw [World.setRow_alloc_new]
       have hb := (Below.refl W.heap.size W).alloc (Nat.le_refl _) (.cells Q3 31)
       replace HD := Lib.hid (HD.out.next hb)
       replace P1 := Lib.hid (At.two P1.out hb)
       replace P2 := Lib.hid (At.two P2.out hb)
       replace HBa := Lib.hid (HBa.out.below hb)
       replace HBb := Lib.hid (HBb.out.below hb)
       replace HBc := Lib.hid (HBc.out.below hb)
       have P3 := Lib.hid (At.new W Q3 31)
       clear hb
       revert HD P1 P2 HBa HBb HBc P3
       generalize W.heap.size = b3
       generalize World.alloc _ _ = W5
       intro HD P1 P2 HBa HBb HBc P3
       clear W)
    | fail)
  have hQ23 : ∀ k, k < 38 → stN (stN f I) J k = stN f K k := fun k _ => by rw [stN_add, HK.out]
  have e2 := st_eq_p HQ2.out HQ3.out hQ23
  clear hQ23
  go_loopw [15] (fun i w' => ∃ k : Nat, k ≤ K ∧ i = .int .i64 k ∧ Hid (SB W5 w')) (fun i _ => K - (intOf i).toNat)
  case atStart => exact ⟨0, by omega, rfl, Lib.hid (Below.refl _ _)⟩
  case round =>
    obtain ⟨k, hk, rfl, HS⟩ := hrel
    by_cases hkK : k < K
    · have k1 : (k : Int) < K := by omega
      have hk40 : k < 40 := by have := HK.out; have := HI20.out; have := HJ20.out; omega
      replace HD := Lib.hid (HD.out.next HS.out)
      replace P2 := Lib.hid (At.two P2.out HS.out)
      replace P3 := Lib.hid (At.two P3.out HS.out)
      replace HBa := Lib.hid (HBa.out.below HS.out)
      replace HBb := Lib.hid (HBb.out.below HS.out)
      replace HBc := Lib.hid (HBc.out.below HS.out)
      obtain ⟨gc, rfl, hx1, hx2⟩ := HBc.out.addr (by omega)
      clear hx1 hx2
      obtain ⟨R, hR⟩ : ∃ R, IsRow 16 (soN f k) R := ⟨_, isRow _ _⟩
      have e1 := rows_eq hR hR (fun _ _ => rfl) Try.underlying29
      have HR := Lib.hid hR
      obtain ⟨kk, hkk⟩ : ∃ kk : Int, kk = (k : Int) := ⟨_, rfl⟩
      obtain ⟨ii, hii⟩ : ∃ ii : Int, ii = (I : Int) := ⟨_, rfl⟩
      have Hkk := Lib.hid hkk
      have Hii := Lib.hid hii
      clear hR
      go_wp2_with fail
      rw [← hkk, ← hii]
      by_cases hkI : k < I
      · have d1 : decide (kk < ii) = true := decide_eq_true (by omega)
        have d2 : decide (kk ≥ ii) = false := decide_eq_false (by omega)
        obtain ⟨ga, rfl, hx1, hx2⟩ := HBa.out.addr (by omega)
        clear hx1 hx2 hkk hii
        refine mv_start fun hS => ?_
        refine mv_yield (i := 0) (d := 60) (.slice (some ⟨gc, 0, none⟩) K cc) rfl rfl (by kernel_rfl) (by kernel_rfl) (by kernel_rfl) hS (y_run (by rfl) fun _ => by rfl) ?_
        simp only [Act.put, List.setIfInBounds_toArray, List.set_cons_zero, List.set_cons_succ]
        refine mv_yield (i := 1) (d := 61) (.int .i64 ((K : Nat))) rfl rfl (by kernel_rfl) (by kernel_rfl) (by kernel_rfl) hS (y_len (by rfl) rfl Try.underlying28 rfl) ?_
        simp only [Act.put, List.setIfInBounds_toArray, List.set_cons_zero, List.set_cons_succ]
        refine mv_yield (i := 2) (d := 62) (.slice (some ⟨ga, 0, none⟩) I ca) rfl rfl (by kernel_rfl) (by kernel_rfl) (by kernel_rfl) hS (y_run (by rfl) fun _ => by rfl) ?_
        simp only [Act.put, List.setIfInBounds_toArray, List.set_cons_zero, List.set_cons_succ]
        refine mv_yield (i := 3) (d := 63) (.int .i64 ((I : Nat))) rfl rfl (by kernel_rfl) (by kernel_rfl) (by kernel_rfl) hS (y_len (by rfl) rfl Try.underlying28 rfl) ?_
        simp only [Act.put, List.setIfInBounds_toArray, List.set_cons_zero, List.set_cons_succ]
        refine mv_yield (i := 4) (d := 64) (.slice b J cb) rfl rfl (by kernel_rfl) (by kernel_rfl) (by kernel_rfl) hS (y_run (by rfl) fun _ => by rfl) ?_
        simp only [Act.put, List.setIfInBounds_toArray, List.set_cons_zero, List.set_cons_succ]
        refine mv_yield (i := 5) (d := 65) (.int .i64 ((J : Nat))) rfl rfl (by kernel_rfl) (by kernel_rfl) (by kernel_rfl) hS (y_len (by rfl) rfl Try.underlying28 rfl) ?_
        simp only [Act.put, List.setIfInBounds_toArray, List.set_cons_zero, List.set_cons_succ]
        refine mv_yield (i := 6) (d := 66) (.int .i64 ((K : Nat))) rfl rfl (by kernel_rfl) (by kernel_rfl) (by kernel_rfl) hS (y_add (by rfl) rfl rfl rfl HAD.out) ?_
        simp only [Act.put, List.setIfInBounds_toArray, List.set_cons_zero, List.set_cons_succ]
        refine mv_yield (i := 7) (d := 67) (.bool false) rfl rfl (by kernel_rfl) (by kernel_rfl) (by kernel_rfl) hS (y_nei (by rfl) rfl rfl rfl (bne_self_eq_false _)) ?_
        simp only [Act.put, List.setIfInBounds_toArray, List.set_cons_zero, List.set_cons_succ]
        refine mv_yield (i := 8) (d := 68) (.bool false) rfl rfl (by kernel_rfl) (by kernel_rfl) (by kernel_rfl) hS (y_run (by rfl) fun _ => by rfl) ?_
        simp only [Act.put, List.setIfInBounds_toArray, List.set_cons_zero, List.set_cons_succ]
        refine mv_yield (i := 9) (d := 69) (.int .i64 kk) rfl rfl (by kernel_rfl) (by kernel_rfl) (by kernel_rfl) hS (y_run (by rfl) fun _ => by rfl) ?_
        simp only [Act.put, List.setIfInBounds_toArray, List.set_cons_zero, List.set_cons_succ]
        refine mv_yield (i := 10) (d := 70) (.int .i64 ii) rfl rfl (by kernel_rfl) (by kernel_rfl) (by kernel_rfl) hS (y_run (by rfl) fun _ => by rfl) ?_
        simp only [Act.put, List.setIfInBounds_toArray, List.set_cons_zero, List.set_cons_succ]
        refine mv_yield (i := 11) (d := 71) (.bool true) rfl rfl (by kernel_rfl) (by kernel_rfl) (by kernel_rfl) hS (y_lss (by rfl) rfl rfl rfl d1) ?_
        simp only [Act.put, List.setIfInBounds_toArray, List.set_cons_zero, List.set_cons_succ]
        refine mv_yield (i := 12) (d := 72) (.bool true) rfl rfl (by kernel_rfl) (by kernel_rfl) (by kernel_rfl) hS (y_run (by rfl) fun _ => by rfl) ?_
        simp only [Act.put, List.setIfInBounds_toArray, List.set_cons_zero, List.set_cons_succ]
        refine mv_yield (i := 13) (d := 73) (.slice (some ⟨gc, 0, none⟩) K cc) rfl rfl (by kernel_rfl) (by kernel_rfl) (by kernel_rfl) hS (y_run (by rfl) fun _ => by rfl) ?_
        simp only [Act.put, List.setIfInBounds_toArray, List.set_cons_zero, List.set_cons_succ]
        refine mv_yield (i := 14) (d := 74) (.int .i64 kk) rfl rfl (by kernel_rfl) (by kernel_rfl) (by kernel_rfl) hS (y_run (by rfl) fun _ => by rfl) ?_
        simp only [Act.put, List.setIfInBounds_toArray, List.set_cons_zero, List.set_cons_succ]
        refine mv_yield (i := 15) (d := 75) (.pointer (some ⟨gc, (k * 16), none⟩)) rfl rfl (by kernel_rfl) (by kernel_rfl) (by kernel_rfl) hS (y_bx (k := k) (by rfl) rfl rfl rfl Hkk.out hkK) ?_
        simp only [Act.put, List.setIfInBounds_toArray, List.set_cons_zero, List.set_cons_succ]
        refine mv_yield (i := 16) (d := 76) (.agg R) rfl rfl (by kernel_rfl) (by kernel_rfl) (by kernel_rfl) hS (y_load_range (by rfl) rfl rfl (fun w' h => Bks.range (HBc.out.below h) hkK HR.out) Try.underlying29 rfl (HIB.out _ HR.out.1)) ?_
        simp only [Act.put, List.setIfInBounds_toArray, List.set_cons_zero, List.set_cons_succ]
        refine mv_yield (i := 17) (d := 77) (.slice (some ⟨ga, 0, none⟩) I ca) rfl rfl (by kernel_rfl) (by kernel_rfl) (by kernel_rfl) hS (y_run (by rfl) fun _ => by rfl) ?_
        simp only [Act.put, List.setIfInBounds_toArray, List.set_cons_zero, List.set_cons_succ]
        refine mv_yield (i := 18) (d := 78) (.int .i64 kk) rfl rfl (by kernel_rfl) (by kernel_rfl) (by kernel_rfl) hS (y_run (by rfl) fun _ => by rfl) ?_
        simp only [Act.put, List.setIfInBounds_toArray, List.set_cons_zero, List.set_cons_succ]
        refine mv_yield (i := 19) (d := 79) (.pointer (some ⟨ga, (k * 16), none⟩)) rfl rfl (by kernel_rfl) (by kernel_rfl) (by kernel_rfl) hS (y_bx (k := k) (by rfl) rfl rfl rfl Hkk.out hkI) ?_
        simp only [Act.put, List.setIfInBounds_toArray, List.set_cons_zero, List.set_cons_succ]
        refine mv_yield (i := 20) (d := 80) (.agg R) rfl rfl (by kernel_rfl) (by kernel_rfl) (by kernel_rfl) hS (y_load_range (by rfl) rfl rfl (fun w' h => Bks.range (HBa.out.below h) hkI HR.out) Try.underlying29 rfl (HIB.out _ HR.out.1)) ?_
        simp only [Act.put, List.setIfInBounds_toArray, List.set_cons_zero, List.set_cons_succ]
        refine mv_yield (i := 21) (d := 81) (.bool false) rfl rfl (by kernel_rfl) (by kernel_rfl) (by kernel_rfl) hS (y_neq (b := true) (by rfl) rfl rfl rfl (by kernel_rfl) e1) ?_
        simp only [Act.put, List.setIfInBounds_toArray, List.set_cons_zero, List.set_cons_succ]
        refine mv_yield (i := 22) (d := 82) (.bool false) rfl rfl (by kernel_rfl) (by kernel_rfl) (by kernel_rfl) hS (y_run (by rfl) fun _ => by rfl) ?_
        simp only [Act.put, List.setIfInBounds_toArray, List.set_cons_zero, List.set_cons_succ]
        refine mv_yield (i := 23) (d := 83) (.bool false) rfl rfl (by kernel_rfl) (by kernel_rfl) (by kernel_rfl) hS (y_run (by rfl) fun _ => by rfl) ?_
        simp only [Act.put, List.setIfInBounds_toArray, List.set_cons_zero, List.set_cons_succ]
        refine mv_yield (i := 24) (d := 84) (.bool false) rfl rfl (by kernel_rfl) (by kernel_rfl) (by kernel_rfl) hS (y_run (by rfl) fun _ => by rfl) ?_
        simp only [Act.put, List.setIfInBounds_toArray, List.set_cons_zero, List.set_cons_succ]
        refine mv_yield (i := 25) (d := 85) (.int .i64 kk) rfl rfl (by kernel_rfl) (by kernel_rfl) (by kernel_rfl) hS (y_run (by rfl) fun _ => by rfl) ?_
        simp only [Act.put, List.setIfInBounds_toArray, List.set_cons_zero, List.set_cons_succ]
        refine mv_yield (i := 26) (d := 86) (.int .i64 ii) rfl rfl (by kernel_rfl) (by kernel_rfl) (by kernel_rfl) hS (y_run (by rfl) fun _ => by rfl) ?_
        simp only [Act.put, List.setIfInBounds_toArray, List.set_cons_zero, List.set_cons_succ]
        refine mv_yield (i := 27) (d := 87) (.bool false) rfl rfl (by kernel_rfl) (by kernel_rfl) (by kernel_rfl) hS (y_geq (by rfl) rfl rfl rfl d2) ?_
        simp only [Act.put, List.setIfInBounds_toArray, List.set_cons_zero, List.set_cons_succ]
        refine mv_yield (i := 28) (d := 88) (.bool false) rfl rfl (by kernel_rfl) (by kernel_rfl) (by kernel_rfl) hS (y_run (by rfl) fun _ => by rfl) ?_
        simp only [Act.put, List.setIfInBounds_toArray, List.set_cons_zero, List.set_cons_succ]
        refine mv_yield (i := 29) (d := 89) undef rfl rfl (by kernel_rfl) (by kernel_rfl) (by kernel_rfl) hS (y_skip (by rfl)) ?_
        simp only [Act.put, List.setIfInBounds_toArray, List.set_cons_zero, List.set_cons_succ]
        refine mv_yield (i := 30) (d := 90) undef rfl rfl (by kernel_rfl) (by kernel_rfl) (by kernel_rfl) hS (y_skip (by rfl)) ?_
        simp only [Act.put, List.setIfInBounds_toArray, List.set_cons_zero, List.set_cons_succ]
        refine mv_yield (i := 31) (d := 91) undef rfl rfl (by kernel_rfl) (by kernel_rfl) (by kernel_rfl) hS (y_skip (by rfl)) ?_
        simp only [Act.put, List.setIfInBounds_toArray, List.set_cons_zero, List.set_cons_succ]
        refine mv_yield (i := 32) (d := 92) undef rfl rfl (by kernel_rfl) (by kernel_rfl) (by kernel_rfl) hS (y_skip (by rfl)) ?_
        simp only [Act.put, List.setIfInBounds_toArray, List.set_cons_zero, List.set_cons_succ]
        refine mv_yield (i := 33) (d := 93) undef rfl rfl (by kernel_rfl) (by kernel_rfl) (by kernel_rfl) hS (y_skip (by rfl)) ?_
        simp only [Act.put, List.setIfInBounds_toArray, List.set_cons_zero, List.set_cons_succ]
        refine mv_yield (i := 34) (d := 94) undef rfl rfl (by kernel_rfl) (by kernel_rfl) (by kernel_rfl) hS (y_skip (by rfl)) ?_
        simp only [Act.put, List.setIfInBounds_toArray, List.set_cons_zero, List.set_cons_succ]
        refine mv_yield (i := 35) (d := 95) undef rfl rfl (by kernel_rfl) (by kernel_rfl) (by kernel_rfl) hS (y_skip (by rfl)) ?_
        simp only [Act.put, List.setIfInBounds_toArray, List.set_cons_zero, List.set_cons_succ]
        refine mv_yield (i := 36) (d := 96) undef rfl rfl (by kernel_rfl) (by kernel_rfl) (by kernel_rfl) hS (y_skip (by rfl)) ?_
        simp only [Act.put, List.setIfInBounds_toArray, List.set_cons_zero, List.set_cons_succ]
        refine mv_yield (i := 37) (d := 97) undef rfl rfl (by kernel_rfl) (by kernel_rfl) (by kernel_rfl) hS (y_skip (by rfl)) ?_
        simp only [Act.put, List.setIfInBounds_toArray, List.set_cons_zero, List.set_cons_succ]
        refine mv_yield (i := 38) (d := 98) undef rfl rfl (by kernel_rfl) (by kernel_rfl) (by kernel_rfl) hS (y_skip (by rfl)) ?_
        simp only [Act.put, List.setIfInBounds_toArray, List.set_cons_zero, List.set_cons_succ]
        refine mv_yield (i := 39) (d := 99) undef rfl rfl (by kernel_rfl) (by kernel_rfl) (by kernel_rfl) hS (y_skip (by rfl)) ?_
        simp only [Act.put, List.setIfInBounds_toArray, List.set_cons_zero, List.set_cons_succ]
        refine mv_yield (i := 40) (d := 100) (.bool false) rfl rfl (by kernel_rfl) (by kernel_rfl) (by kernel_rfl) hS (y_run (by rfl) fun _ => by rfl) ?_
        simp only [Act.put, List.setIfInBounds_toArray, List.set_cons_zero, List.set_cons_succ]
        refine mv_yield (i := 41) (d := 101) (.bool false) rfl rfl (by kernel_rfl) (by kernel_rfl) (by kernel_rfl) hS (y_run (by rfl) fun _ => by rfl) ?_
        simp only [Act.put, List.setIfInBounds_toArray, List.set_cons_zero, List.set_cons_succ]
        refine mv_done (by kernel_rfl) ?_
        replace HS := Lib.hid (below_trans HS.out hS HS.out.size)
        clear hS
        rw [Hkk.out, Hii.out]
        go_wp2_with fail
        go_roundw
        case rel => exact ⟨k + 1, by omega, by go_num, HS⟩
        case measure => simp [intOf]; omega
      · have d1 : decide (kk < ii) = false := decide_eq_false (by omega)
        have d2 : decide (kk ≥ ii) = true := decide_eq_true (by omega)
        obtain ⟨q, hq⟩ : ∃ q, k = I + q := ⟨k - I, by omega⟩
        have hqJ : q < J := by have := HK.out; omega
        obtain ⟨qq, hqq⟩ : ∃ qq : Int, qq = (q : Int) := ⟨_, rfl⟩
        have Hqq := Lib.hid hqq
        have hsub : IntKind.i64.wrap (kk - ii) = qq := by have := HI20.out; have := HJ20.out; rw [IntWalk.i64_in _ (by omega)]; omega
        have HRq := Lib.hid (show IsRow 16 (soN (stN f I) q) R from HR.out.ext fun i _ => by show slF (stN f k) i = slF (stN (stN f I) q) i; rw [stN_add, hq])
        obtain ⟨gb, rfl, hx1, hx2⟩ := HBb.out.addr (by omega)
        clear hx1 hx2 hkk hii hqq hq
        refine mv_start fun hS => ?_
        refine mv_yield (i := 0) (d := 60) (.slice (some ⟨gc, 0, none⟩) K cc) rfl rfl (by kernel_rfl) (by kernel_rfl) (by kernel_rfl) hS (y_run (by rfl) fun _ => by rfl) ?_
        simp only [Act.put, List.setIfInBounds_toArray, List.set_cons_zero, List.set_cons_succ]
        refine mv_yield (i := 1) (d := 61) (.int .i64 ((K : Nat))) rfl rfl (by kernel_rfl) (by kernel_rfl) (by kernel_rfl) hS (y_len (by rfl) rfl Try.underlying28 rfl) ?_
        simp only [Act.put, List.setIfInBounds_toArray, List.set_cons_zero, List.set_cons_succ]
        refine mv_yield (i := 2) (d := 62) (.slice a I ca) rfl rfl (by kernel_rfl) (by kernel_rfl) (by kernel_rfl) hS (y_run (by rfl) fun _ => by rfl) ?_
        simp only [Act.put, List.setIfInBounds_toArray, List.set_cons_zero, List.set_cons_succ]
        refine mv_yield (i := 3) (d := 63) (.int .i64 ((I : Nat))) rfl rfl (by kernel_rfl) (by kernel_rfl) (by kernel_rfl) hS (y_len (by rfl) rfl Try.underlying28 rfl) ?_
        simp only [Act.put, List.setIfInBounds_toArray, List.set_cons_zero, List.set_cons_succ]
        refine mv_yield (i := 4) (d := 64) (.slice (some ⟨gb, 0, none⟩) J cb) rfl rfl (by kernel_rfl) (by kernel_rfl) (by kernel_rfl) hS (y_run (by rfl) fun _ => by rfl) ?_
        simp only [Act.put, List.setIfInBounds_toArray, List.set_cons_zero, List.set_cons_succ]
        refine mv_yield (i := 5) (d := 65) (.int .i64 ((J : Nat))) rfl rfl (by kernel_rfl) (by kernel_rfl) (by kernel_rfl) hS (y_len (by rfl) rfl Try.underlying28 rfl) ?_
        simp only [Act.put, List.setIfInBounds_toArray, List.set_cons_zero, List.set_cons_succ]
        refine mv_yield (i := 6) (d := 66) (.int .i64 ((K : Nat))) rfl rfl (by kernel_rfl) (by kernel_rfl) (by kernel_rfl) hS (y_add (by rfl) rfl rfl rfl HAD.out) ?_
        simp only [Act.put, List.setIfInBounds_toArray, List.set_cons_zero, List.set_cons_succ]
        refine mv_yield (i := 7) (d := 67) (.bool false) rfl rfl (by kernel_rfl) (by kernel_rfl) (by kernel_rfl) hS (y_nei (by rfl) rfl rfl rfl (bne_self_eq_false _)) ?_
        simp only [Act.put, List.setIfInBounds_toArray, List.set_cons_zero, List.set_cons_succ]
        refine mv_yield (i := 8) (d := 68) (.bool false) rfl rfl (by kernel_rfl) (by kernel_rfl) (by kernel_rfl) hS (y_run (by rfl) fun _ => by rfl) ?_
        simp only [Act.put, List.setIfInBounds_toArray, List.set_cons_zero, List.set_cons_succ]
        refine mv_yield (i := 9) (d := 69) (.int .i64 kk) rfl rfl (by kernel_rfl) (by kernel_rfl) (by kernel_rfl) hS (y_run (by rfl) fun _ => by rfl) ?_
        simp only [Act.put, List.setIfInBounds_toArray, List.set_cons_zero, List.set_cons_succ]
        refine mv_yield (i := 10) (d := 70) (.int .i64 ii) rfl rfl (by kernel_rfl) (by kernel_rfl) (by kernel_rfl) hS (y_run (by rfl) fun _ => by rfl) ?_
        simp only [Act.put, List.setIfInBounds_toArray, List.set_cons_zero, List.set_cons_succ]
        refine mv_yield (i := 11) (d := 71) (.bool false) rfl rfl (by kernel_rfl) (by kernel_rfl) (by kernel_rfl) hS (y_lss (by rfl) rfl rfl rfl d1) ?_
        simp only [Act.put, List.setIfInBounds_toArray, List.set_cons_zero, List.set_cons_succ]
        refine mv_yield (i := 12) (d := 72) (.bool false) rfl rfl (by kernel_rfl) (by kernel_rfl) (by kernel_rfl) hS (y_run (by rfl) fun _ => by rfl) ?_
        simp only [Act.put, List.setIfInBounds_toArray, List.set_cons_zero, List.set_cons_succ]
        refine mv_yield (i := 13) (d := 73) undef rfl rfl (by kernel_rfl) (by kernel_rfl) (by kernel_rfl) hS (y_skip (by rfl)) ?_
        simp only [Act.put, List.setIfInBounds_toArray, List.set_cons_zero, List.set_cons_succ]
        refine mv_yield (i := 14) (d := 74) undef rfl rfl (by kernel_rfl) (by kernel_rfl) (by kernel_rfl) hS (y_skip (by rfl)) ?_
        simp only [Act.put, List.setIfInBounds_toArray, List.set_cons_zero, List.set_cons_succ]
        refine mv_yield (i := 15) (d := 75) undef rfl rfl (by kernel_rfl) (by kernel_rfl) (by kernel_rfl) hS (y_skip (by rfl)) ?_
        simp only [Act.put, List.setIfInBounds_toArray, List.set_cons_zero, List.set_cons_succ]
        refine mv_yield (i := 16) (d := 76) undef rfl rfl (by kernel_rfl) (by kernel_rfl) (by kernel_rfl) hS (y_skip (by rfl)) ?_
        simp only [Act.put, List.setIfInBounds_toArray, List.set_cons_zero, List.set_cons_succ]
        refine mv_yield (i := 17) (d := 77) undef rfl rfl (by kernel_rfl) (by kernel_rfl) (by kernel_rfl) hS (y_skip (by rfl)) ?_
        simp only [Act.put, List.setIfInBounds_toArray, List.set_cons_zero, List.set_cons_succ]
        refine mv_yield (i := 18) (d := 78) undef rfl rfl (by kernel_rfl) (by kernel_rfl) (by kernel_rfl) hS (y_skip (by rfl)) ?_
        simp only [Act.put, List.setIfInBounds_toArray, List.set_cons_zero, List.set_cons_succ]
        refine mv_yield (i := 19) (d := 79) undef rfl rfl (by kernel_rfl) (by kernel_rfl) (by kernel_rfl) hS (y_skip (by rfl)) ?_
        simp only [Act.put, List.setIfInBounds_toArray, List.set_cons_zero, List.set_cons_succ]
        refine mv_yield (i := 20) (d := 80) undef rfl rfl (by kernel_rfl) (by kernel_rfl) (by kernel_rfl) hS (y_skip (by rfl)) ?_
        simp only [Act.put, List.setIfInBounds_toArray, List.set_cons_zero, List.set_cons_succ]
        refine mv_yield (i := 21) (d := 81) undef rfl rfl (by kernel_rfl) (by kernel_rfl) (by kernel_rfl) hS (y_skip (by rfl)) ?_
        simp only [Act.put, List.setIfInBounds_toArray, List.set_cons_zero, List.set_cons_succ]
        refine mv_yield (i := 22) (d := 82) (.bool false) rfl rfl (by kernel_rfl) (by kernel_rfl) (by kernel_rfl) hS (y_run (by rfl) fun _ => by rfl) ?_
        simp only [Act.put, List.setIfInBounds_toArray, List.set_cons_zero, List.set_cons_succ]
        refine mv_yield (i := 23) (d := 83) (.bool false) rfl rfl (by kernel_rfl) (by kernel_rfl) (by kernel_rfl) hS (y_run (by rfl) fun _ => by rfl) ?_
        simp only [Act.put, List.setIfInBounds_toArray, List.set_cons_zero, List.set_cons_succ]
        refine mv_yield (i := 24) (d := 84) (.bool false) rfl rfl (by kernel_rfl) (by kernel_rfl) (by kernel_rfl) hS (y_run (by rfl) fun _ => by rfl) ?_
        simp only [Act.put, List.setIfInBounds_toArray, List.set_cons_zero, List.set_cons_succ]
        refine mv_yield (i := 25) (d := 85) (.int .i64 kk) rfl rfl (by kernel_rfl) (by kernel_rfl) (by kernel_rfl) hS (y_run (by rfl) fun _ => by rfl) ?_
        simp only [Act.put, List.setIfInBounds_toArray, List.set_cons_zero, List.set_cons_succ]
        refine mv_yield (i := 26) (d := 86) (.int .i64 ii) rfl rfl (by kernel_rfl) (by kernel_rfl) (by kernel_rfl) hS (y_run (by rfl) fun _ => by rfl) ?_
        simp only [Act.put, List.setIfInBounds_toArray, List.set_cons_zero, List.set_cons_succ]
        refine mv_yield (i := 27) (d := 87) (.bool true) rfl rfl (by kernel_rfl) (by kernel_rfl) (by kernel_rfl) hS (y_geq (by rfl) rfl rfl rfl d2) ?_
        simp only [Act.put, List.setIfInBounds_toArray, List.set_cons_zero, List.set_cons_succ]
        refine mv_yield (i := 28) (d := 88) (.bool true) rfl rfl (by kernel_rfl) (by kernel_rfl) (by kernel_rfl) hS (y_run (by rfl) fun _ => by rfl) ?_
        simp only [Act.put, List.setIfInBounds_toArray, List.set_cons_zero, List.set_cons_succ]
        refine mv_yield (i := 29) (d := 89) (.slice (some ⟨gc, 0, none⟩) K cc) rfl rfl (by kernel_rfl) (by kernel_rfl) (by kernel_rfl) hS (y_run (by rfl) fun _ => by rfl) ?_
        simp only [Act.put, List.setIfInBounds_toArray, List.set_cons_zero, List.set_cons_succ]
        refine mv_yield (i := 30) (d := 90) (.int .i64 kk) rfl rfl (by kernel_rfl) (by kernel_rfl) (by kernel_rfl) hS (y_run (by rfl) fun _ => by rfl) ?_
        simp only [Act.put, List.setIfInBounds_toArray, List.set_cons_zero, List.set_cons_succ]
        refine mv_yield (i := 31) (d := 91) (.pointer (some ⟨gc, (k * 16), none⟩)) rfl rfl (by kernel_rfl) (by kernel_rfl) (by kernel_rfl) hS (y_bx (k := k) (by rfl) rfl rfl rfl Hkk.out hkK) ?_
        simp only [Act.put, List.setIfInBounds_toArray, List.set_cons_zero, List.set_cons_succ]
        refine mv_yield (i := 32) (d := 92) (.agg R) rfl rfl (by kernel_rfl) (by kernel_rfl) (by kernel_rfl) hS (y_load_range (by rfl) rfl rfl (fun w' h => Bks.range (HBc.out.below h) hkK HR.out) Try.underlying29 rfl (HIB.out _ HR.out.1)) ?_
        simp only [Act.put, List.setIfInBounds_toArray, List.set_cons_zero, List.set_cons_succ]
        refine mv_yield (i := 33) (d := 93) (.slice (some ⟨gb, 0, none⟩) J cb) rfl rfl (by kernel_rfl) (by kernel_rfl) (by kernel_rfl) hS (y_run (by rfl) fun _ => by rfl) ?_
        simp only [Act.put, List.setIfInBounds_toArray, List.set_cons_zero, List.set_cons_succ]
        refine mv_yield (i := 34) (d := 94) (.int .i64 kk) rfl rfl (by kernel_rfl) (by kernel_rfl) (by kernel_rfl) hS (y_run (by rfl) fun _ => by rfl) ?_
        simp only [Act.put, List.setIfInBounds_toArray, List.set_cons_zero, List.set_cons_succ]
        refine mv_yield (i := 35) (d := 95) (.int .i64 ii) rfl rfl (by kernel_rfl) (by kernel_rfl) (by kernel_rfl) hS (y_run (by rfl) fun _ => by rfl) ?_
        simp only [Act.put, List.setIfInBounds_toArray, List.set_cons_zero, List.set_cons_succ]
        refine mv_yield (i := 36) (d := 96) (.int .i64 qq) rfl rfl (by kernel_rfl) (by kernel_rfl) (by kernel_rfl) hS (y_sub (by rfl) rfl rfl rfl hsub) ?_
        simp only [Act.put, List.setIfInBounds_toArray, List.set_cons_zero, List.set_cons_succ]
        refine mv_yield (i := 37) (d := 97) (.pointer (some ⟨gb, (q * 16), none⟩)) rfl rfl (by kernel_rfl) (by kernel_rfl) (by kernel_rfl) hS (y_bx (k := q) (by rfl) rfl rfl rfl Hqq.out hqJ) ?_
        simp only [Act.put, List.setIfInBounds_toArray, List.set_cons_zero, List.set_cons_succ]
        refine mv_yield (i := 38) (d := 98) (.agg R) rfl rfl (by kernel_rfl) (by kernel_rfl) (by kernel_rfl) hS (y_load_range (by rfl) rfl rfl (fun w' h => Bks.range (HBb.out.below h) hqJ HRq.out) Try.underlying29 rfl (HIB.out _ HRq.out.1)) ?_
        simp only [Act.put, List.setIfInBounds_toArray, List.set_cons_zero, List.set_cons_succ]
        refine mv_yield (i := 39) (d := 99) (.bool false) rfl rfl (by kernel_rfl) (by kernel_rfl) (by kernel_rfl) hS (y_neq (b := true) (by rfl) rfl rfl rfl (by kernel_rfl) e1) ?_
        simp only [Act.put, List.setIfInBounds_toArray, List.set_cons_zero, List.set_cons_succ]
        refine mv_yield (i := 40) (d := 100) (.bool false) rfl rfl (by kernel_rfl) (by kernel_rfl) (by kernel_rfl) hS (y_run (by rfl) fun _ => by rfl) ?_
        simp only [Act.put, List.setIfInBounds_toArray, List.set_cons_zero, List.set_cons_succ]
        refine mv_yield (i := 41) (d := 101) (.bool false) rfl rfl (by kernel_rfl) (by kernel_rfl) (by kernel_rfl) hS (y_run (by rfl) fun _ => by rfl) ?_
        simp only [Act.put, List.setIfInBounds_toArray, List.set_cons_zero, List.set_cons_succ]
        refine mv_done (by kernel_rfl) ?_
        replace HS := Lib.hid (below_trans HS.out hS HS.out.size)
        clear hS
        rw [Hkk.out, Hii.out]
        go_wp2_with fail
        go_roundw
        case rel => exact ⟨k + 1, by omega, by go_num, HS⟩
        case measure => simp [intOf]; omega
    · have k1 : ¬ (k : Int) < K := by omega
      replace HD := Lib.hid (HD.out.next HS.out)
      replace P2 := Lib.hid (At.two P2.out HS.out)
      replace P3 := Lib.hid (At.two P3.out HS.out)
      clear HS hk hkK HBa HBb HBc P1
      go_wp2_with (first
    | refine wpList_load_all (by rfl) 25 _ rfl w.heap.size rfl HT.out HD.out.2 Try.underlying25 rfl HIR.out ?_)
      refine (of_as T f _ HT.out).mono ?_
      rintro e W1 ⟨rfl, hb⟩
      replace HD := Lib.hid (HD.out.next hb)
      replace P2 := Lib.hid (At.two P2.out hb)
      replace P3 := Lib.hid (At.two P3.out hb)
      clear hb wr
      go_wp2_with fail
      refine (HR4.out W1).mono ?_
      rintro e W ⟨d, cd, Q4, rfl, hQ, hBK, hb⟩
      have HQ4 := Lib.hid hQ
      have HBd := Lib.hid (hBK.wide (Nat.zero_le _))
      replace HD := Lib.hid (HD.out.next hb)
      replace P2 := Lib.hid (At.two P2.out hb)
      replace P3 := Lib.hid (At.two P3.out hb)
      clear hb hQ hBK HR4 W1
      go_wp2_with (first
        | (refine wpList_store_row rfl 31 _ _ rfl W.heap.size Q4 rfl rfl _ _ (heap_alloc_new _ _) (HIP.out _ HQ4.out.1) (by rw [HZP.out, HQ4.out.1]) HQ4.out.2.1 ?_; rw [World.setRow_alloc_new]
           have hb := (Below.refl W.heap.size W).alloc (Nat.le_refl _) (.cells Q4 31)
           replace HD := Lib.hid (HD.out.next hb)
           replace P2 := Lib.hid (At.two P2.out hb)
           replace P3 := Lib.hid (At.two P3.out hb)
           replace HBd := Lib.hid (HBd.out.below hb)
           have P4 := Lib.hid (At.new W Q4 31)
           clear hb
           revert HD P2 P3 HBd P4
           generalize W.heap.size = b4
           generalize World.alloc _ _ = W5
           intro HD P2 P3 HBd P4
           clear W)
        | fail)
      have e4 := st_eq_p HQ4.out HT.out (fun _ _ => rfl)
      refine mv_start fun hS => ?_
      refine mv_yield (i := 0) (d := 110) (.slice c K cc) rfl rfl (by kernel_rfl) (by kernel_rfl) (by kernel_rfl) hS (y_run (by rfl) fun _ => by rfl) ?_
      simp only [Act.put, List.setIfInBounds_toArray, List.set_cons_zero, List.set_cons_succ]
      refine mv_yield (i := 1) (d := 111) (.int .i64 ((K : Nat))) rfl rfl (by kernel_rfl) (by kernel_rfl) (by kernel_rfl) hS (y_len (by rfl) rfl Try.underlying28 rfl) ?_
      simp only [Act.put, List.setIfInBounds_toArray, List.set_cons_zero, List.set_cons_succ]
      refine mv_yield (i := 2) (d := 112) (.int .i64 ((I : Nat))) rfl rfl (by kernel_rfl) (by kernel_rfl) (by kernel_rfl) hS (y_run (by rfl) fun _ => by rfl) ?_
      simp only [Act.put, List.setIfInBounds_toArray, List.set_cons_zero, List.set_cons_succ]
      refine mv_yield (i := 3) (d := 113) (.int .i64 ((J : Nat))) rfl rfl (by kernel_rfl) (by kernel_rfl) (by kernel_rfl) hS (y_run (by rfl) fun _ => by rfl) ?_
      simp only [Act.put, List.setIfInBounds_toArray, List.set_cons_zero, List.set_cons_succ]
      refine mv_yield (i := 4) (d := 114) (.int .i64 ((K : Nat))) rfl rfl (by kernel_rfl) (by kernel_rfl) (by kernel_rfl) hS (y_add (by rfl) rfl rfl rfl HAD.out) ?_
      simp only [Act.put, List.setIfInBounds_toArray, List.set_cons_zero, List.set_cons_succ]
      refine mv_yield (i := 5) (d := 115) (.bool true) rfl rfl (by kernel_rfl) (by kernel_rfl) (by kernel_rfl) hS (y_eqi2 (by rfl) rfl rfl rfl (beq_self_eq_true _)) ?_
      simp only [Act.put, List.setIfInBounds_toArray, List.set_cons_zero, List.set_cons_succ]
      refine mv_yield (i := 6) (d := 116) (.bool true) rfl rfl (by kernel_rfl) (by kernel_rfl) (by kernel_rfl) hS (y_run (by rfl) fun _ => by rfl) ?_
      simp only [Act.put, List.setIfInBounds_toArray, List.set_cons_zero, List.set_cons_succ]
      refine mv_yield (i := 7) (d := 117) (.agg Q2) rfl rfl (by kernel_rfl) (by kernel_rfl) (by kernel_rfl) hS (y_load_part (l := 0) (by rfl) rfl rfl HQ2.out (fun w' h => (P2.out).below h (P2.out).lt) HQ2.out (by omega) (fun i _ => by first | rw [Nat.zero_add] | rfl) Try.underlying31 rfl (HIP.out _ HQ2.out.1)) ?_
      simp only [Act.put, List.setIfInBounds_toArray, List.set_cons_zero, List.set_cons_succ]
      refine mv_yield (i := 8) (d := 118) (.agg Q3) rfl rfl (by kernel_rfl) (by kernel_rfl) (by kernel_rfl) hS (y_load_part (l := 0) (by rfl) rfl rfl HQ3.out (fun w' h => (P3.out).below h (P3.out).lt) HQ3.out (by omega) (fun i _ => by first | rw [Nat.zero_add] | rfl) Try.underlying31 rfl (HIP.out _ HQ3.out.1)) ?_
      simp only [Act.put, List.setIfInBounds_toArray, List.set_cons_zero, List.set_cons_succ]
      refine mv_yield (i := 9) (d := 119) (.bool true) rfl rfl (by kernel_rfl) (by kernel_rfl) (by kernel_rfl) hS (y_eql (by rfl) rfl rfl rfl (by kernel_rfl) e2) ?_
      simp only [Act.put, List.setIfInBounds_toArray, List.set_cons_zero, List.set_cons_succ]
      refine mv_yield (i := 10) (d := 120) (.bool true) rfl rfl (by kernel_rfl) (by kernel_rfl) (by kernel_rfl) hS (y_run (by rfl) fun _ => by rfl) ?_
      simp only [Act.put, List.setIfInBounds_toArray, List.set_cons_zero, List.set_cons_succ]
      refine mv_yield (i := 11) (d := 121) (.bool true) rfl rfl (by kernel_rfl) (by kernel_rfl) (by kernel_rfl) hS (y_run (by rfl) fun _ => by rfl) ?_
      simp only [Act.put, List.setIfInBounds_toArray, List.set_cons_zero, List.set_cons_succ]
      refine mv_yield (i := 12) (d := 122) (.slice d 0 cd) rfl rfl (by kernel_rfl) (by kernel_rfl) (by kernel_rfl) hS (y_run (by rfl) fun _ => by rfl) ?_
      simp only [Act.put, List.setIfInBounds_toArray, List.set_cons_zero, List.set_cons_succ]
      refine mv_yield (i := 13) (d := 123) (.int .i64 0) rfl rfl (by kernel_rfl) (by kernel_rfl) (by kernel_rfl) hS (y_len (by rfl) rfl Try.underlying28 rfl) ?_
      simp only [Act.put, List.setIfInBounds_toArray, List.set_cons_zero, List.set_cons_succ]
      refine mv_yield (i := 14) (d := 124) (.bool true) rfl rfl (by kernel_rfl) (by kernel_rfl) (by kernel_rfl) hS (y_eqi2 (by rfl) rfl rfl rfl rfl) ?_
      simp only [Act.put, List.setIfInBounds_toArray, List.set_cons_zero, List.set_cons_succ]
      refine mv_yield (i := 15) (d := 125) (.bool true) rfl rfl (by kernel_rfl) (by kernel_rfl) (by kernel_rfl) hS (y_run (by rfl) fun _ => by rfl) ?_
      simp only [Act.put, List.setIfInBounds_toArray, List.set_cons_zero, List.set_cons_succ]
      refine mv_yield (i := 16) (d := 126) (.bool true) rfl rfl (by kernel_rfl) (by kernel_rfl) (by kernel_rfl) hS (y_run (by rfl) fun _ => by rfl) ?_
      simp only [Act.put, List.setIfInBounds_toArray, List.set_cons_zero, List.set_cons_succ]
      refine mv_yield (i := 17) (d := 127) (.agg Q4) rfl rfl (by kernel_rfl) (by kernel_rfl) (by kernel_rfl) hS (y_load_part (l := 0) (by rfl) rfl rfl HQ4.out (fun w' h => (P4.out).below h (P4.out).lt) HQ4.out (by omega) (fun i _ => by first | rw [Nat.zero_add] | rfl) Try.underlying31 rfl (HIP.out _ HQ4.out.1)) ?_
      simp only [Act.put, List.setIfInBounds_toArray, List.set_cons_zero, List.set_cons_succ]
      refine mv_yield (i := 18) (d := 128) (.agg T) rfl rfl (by kernel_rfl) (by kernel_rfl) (by kernel_rfl) hS (y_load_part (l := 0) (by rfl) rfl rfl HT.out (fun w' h => (HD.out.2).below h (HD.out.2).lt) HT.out (by omega) (fun i _ => by rw [Nat.zero_add]) Try.underlying25 rfl (HIR.out _ HT.out.1)) ?_
      simp only [Act.put, List.setIfInBounds_toArray, List.set_cons_zero, List.set_cons_succ]
      refine mv_call (i := 19) (d := 129) (v := .agg T) #[.agg T] rfl rfl (by kernel_rfl) (by rfl) rfl hS enter_of (by kernel_rfl) (of_as T f _ HT.out) ?_
      clear hS
      rintro w' hS
      simp only [Act.put, List.setIfInBounds_toArray, List.set_cons_zero, List.set_cons_succ]
      refine mv_yield (i := 20) (d := 130) (.bool true) rfl rfl (by kernel_rfl) (by kernel_rfl) (by kernel_rfl) hS (y_eql (by rfl) rfl rfl rfl (by kernel_rfl) e4) ?_
      simp only [Act.put, List.setIfInBounds_toArray, List.set_cons_zero, List.set_cons_succ]
      refine mv_yield (i := 21) (d := 131) (.bool true) rfl rfl (by kernel_rfl) (by kernel_rfl) (by kernel_rfl) hS (y_run (by rfl) fun _ => by rfl) ?_
      simp only [Act.put, List.setIfInBounds_toArray, List.set_cons_zero, List.set_cons_succ]
      refine mv_yield (i := 22) (d := 6) (.bool true) rfl rfl (by kernel_rfl) (by kernel_rfl) (by kernel_rfl) hS (y_run (by rfl) fun _ => by rfl) ?_
      simp only [Act.put, List.setIfInBounds_toArray, List.set_cons_zero, List.set_cons_succ]
      refine mv_done (by kernel_rfl) ?_
      have HB := Lib.hid (below_trans HD.out.1 hS HD.out.1.size)
      clear hS
      go_wp2_with fail
      go_ret
      exact ⟨rfl, HB.out⟩

theorem lostRuns_walk (T : Array Value) (f : Nat → Int) (z y : Int) (hT : IsRow 38 f T) (hz0 : 0 ≤ z) (hz1 : z ≤ 255) (hy0 : 0 ≤ y) (hy1 : y ≤ 255) (w : World) :
    Calls Try.prog 4 #[.agg T, .int .u8 z, .int .u8 y] w fun e w' => e = .returned (.bool true) ∧ Below w.heap.size w w' := by
  by_cases hr : Rt f
  · exact lostRuns_in T f z y hT hr hz0 hz1 hy0 hy1 w
  · exact lostRuns_no T f z y hT hr w
end Go.Proofs.Ytfpmajlgbipbmaa.Lo
