/- LostHalves. Written by g40.py. -/
import Derived.Test.YtfpmajlgbipbmaaLoF
import Derived.Test.YtfpmajlgbipbmaaBksY
set_option maxRecDepth 100000
set_option linter.unusedVariables false
namespace Go.Proofs.Ytfpmajlgbipbmaa.Lo
open Go.RowKit Go.Proofs.Ytfpmajlgbipbmaa.Row Go.Proofs.Ytfpmajlgbipbmaa.Md Go.Proofs.Ytfpmajlgbipbmaa.Tl Go.Proofs.Ytfpmajlgbipbmaa.Sta

set_option maxHeartbeats 2000000 in
theorem lostHalves_no (T : Array Value) (f : Nat → Int) (z : Int) (hT : IsRow 38 f T) (hr : ¬ Rt f) (w : World) :
    Calls Try.prog 6 #[.agg T, .int .u8 z] w fun e w' => e = .returned (.bool true) ∧ Below w.heap.size w w' := by
  obtain ⟨_, _, _, _, hir⟩ := zero_r
  have HRI := Lib.hid (fun w => refRight_any T f false w hT (by simp [hr]))
  have HIR := Lib.hid hir
  have HT := Lib.hid hT
  have HD := Lib.hid (One.start w T 25)
  clear hir hT hr
  go_enter Try.func6, Try.ntmps6
  go_wp2_with fail
  revert HD
  generalize World.alloc _ _ = W
  intro HD
  refine (awake_as W).mono ?_
  rintro e W1 ⟨rfl, hb⟩
  replace HD := Lib.hid (HD.out.next hb)
  clear hb W
  go_wp2_with (refine wpList_load_all (by rfl) 25 _ rfl w.heap.size rfl HT.out HD.out.2 Try.underlying25 rfl HIR.out ?_)
  refine (HRI.out W1).mono ?_
  rintro e W ⟨rfl, hb⟩
  replace HD := Lib.hid (HD.out.next hb)
  clear hb W1
  go_wp2_with fail
  refine (awake_as W).mono ?_
  rintro e W1 ⟨rfl, hb⟩
  replace HD := Lib.hid (HD.out.next hb)
  clear hb
  go_wp2_with fail
  go_ret
  exact ⟨rfl, HD.out.1⟩

set_option maxHeartbeats 2000000 in
theorem lostHalves_far (T : Array Value) (f : Nat → Int) (z : Int) (hT : IsRow 38 f T) (hr : Rt f) (h8 : 8 < f 37) (w : World) :
    Calls Try.prog 6 #[.agg T, .int .u8 z] w fun e w' => e = .returned (.bool true) ∧ Below w.heap.size w w' := by
  obtain ⟨_, _, _, _, hir⟩ := zero_r
  have HRI := Lib.hid (fun w => refRight_any T f true w hT (by simp [hr]))
  have HIR := Lib.hid hir
  have HT := Lib.hid hT
  have HRT := Lib.hid hr
  have HD := Lib.hid (One.start w T 25)
  obtain ⟨l, hl⟩ : ∃ l, f 37 = l := ⟨_, rfl⟩
  rw [hl] at h8
  have HL := Lib.hid hl
  clear hir hT hr hl
  go_enter Try.func6, Try.ntmps6
  go_wp2_with fail
  revert HD
  generalize World.alloc _ _ = W
  intro HD
  refine (awake_as W).mono ?_
  rintro e W1 ⟨rfl, hb⟩
  replace HD := Lib.hid (HD.out.next hb)
  clear hb W
  go_wp2_with (refine wpList_load_all (by rfl) 25 _ rfl w.heap.size rfl HT.out HD.out.2 Try.underlying25 rfl HIR.out ?_)
  refine (HRI.out W1).mono ?_
  rintro e W ⟨rfl, hb⟩
  replace HD := Lib.hid (HD.out.next hb)
  clear hb W1
  have c37 := HT.out.cell HD.out.2 37 (by omega)
  rw [HL.out] at c37
  go_wp2_with fail
  refine (awake_as W).mono ?_
  rintro e W1 ⟨rfl, hb⟩
  replace HD := Lib.hid (HD.out.next hb)
  clear hb
  go_wp2_with fail
  go_ret
  exact ⟨rfl, HD.out.1⟩

set_option maxHeartbeats 2000000 in
theorem lostHalves_in (T : Array Value) (f : Nat → Int) (z : Int) (hT : IsRow 38 f T) (hr : Rt f) (h8 : f 37 ≤ 8) (hz0 : 0 ≤ z) (hz1 : z ≤ 255) (w : World) :
    Calls Try.prog 6 #[.agg T, .int .u8 z] w fun e w' => e = .returned (.bool true) ∧ Below w.heap.size w w' := by
  obtain ⟨Zp, hZp, _, hzp, hip⟩ := zero_p
  obtain ⟨_, _, _, _, hir⟩ := zero_r
  have HRI := Lib.hid (fun w => refRight_any T f true w hT (by simp [hr]))
  have HIR := Lib.hid hir
  have HIP := Lib.hid hip
  have HZP := Lib.hid hZp.1
  have HT := Lib.hid hT
  have HRT := Lib.hid hr
  have HD := Lib.hid (One.start w T 25)
  obtain ⟨l, hl⟩ : ∃ l, f 37 = l := ⟨_, rfl⟩
  have hlb := hr.2.2.2.2
  rw [hl] at h8 hlb
  obtain ⟨l0, _⟩ := hlb
  obtain ⟨N, hN⟩ : ∃ N : Nat, z % (9 - l) = N := ⟨(z % (9 - l)).toNat, by have := Int.emod_nonneg z (show 9 - l ≠ 0 by omega); omega⟩
  have hN8 : (N : Int) ≤ 8 - l := by have := Int.emod_lt_of_pos z (show 0 < 9 - l by omega); omega
  obtain ⟨n, hn⟩ : ∃ n : Int, (N : Int) = n := ⟨_, rfl⟩
  have hn0 : 0 ≤ n := by omega
  rw [hn] at hN hN8
  have htm : z.tmod (9 - l) = n := by rw [Int.tmod_eq_emod_of_nonneg hz0]; exact hN
  have HRU := Lib.hid (run_yes (n := n) hn.symm (by omega) hT hr)
  have HL := Lib.hid hl
  have HN := Lib.hid hn
  clear hir hip hZp hT hr hl hn
  go_enter Try.func6, Try.ntmps6
  go_wp2_with fail
  revert HD
  generalize World.alloc _ _ = W
  intro HD
  refine (awake_as W).mono ?_
  rintro e W1 ⟨rfl, hb⟩
  replace HD := Lib.hid (HD.out.next hb)
  clear hb W
  go_wp2_with (refine wpList_load_all (by rfl) 25 _ rfl w.heap.size rfl HT.out HD.out.2 Try.underlying25 rfl HIR.out ?_)
  refine (HRI.out W1).mono ?_
  rintro e W ⟨rfl, hb⟩
  replace HD := Lib.hid (HD.out.next hb)
  clear hb W1
  have c37 := HT.out.cell HD.out.2 37 (by omega)
  rw [HL.out] at c37
  go_wp2_with (refine wpList_load_all (by rfl) 25 _ rfl w.heap.size rfl HT.out HD.out.2 Try.underlying25 rfl HIR.out ?_)
  refine (of_as T f _ HT.out).mono ?_
  rintro e W1 ⟨rfl, hb⟩
  replace HD := Lib.hid (HD.out.next hb)
  clear hb c37 W
  go_wp2_with fail
  refine (HRU.out W1).mono ?_
  rintro e W ⟨a, c, Q, rfl, hQ, hBK, hb⟩
  have HQ := Lib.hid hQ
  replace HD := Lib.hid (HD.out.next hb)
  clear hb hQ hBK HRU W1
  go_wp2_with (
    (refine wpList_store_row rfl 31 _ _ rfl W.heap.size Q rfl rfl _ _ (heap_alloc_new _ _) (HIP.out _ HQ.out.1) (by rw [HZP.out, HQ.out.1]) HQ.out.2.1 ?_; rw [World.setRow_alloc_new]))
  have hb := (Below.refl W.heap.size W).alloc (Nat.le_refl _) (.cells Q 31)
  replace HD := Lib.hid (HD.out.next hb)
  have PQ := Lib.hid (At.new W Q 31)
  clear hb
  revert HD PQ
  generalize W.heap.size = b
  generalize World.alloc _ _ = W5
  intro HD PQ
  clear W
  have Hst := Lib.hid (fun i hi => st_wav (i := i) HRT.out hi N (by have := HL.out; have := HN.out; omega))
  go_loopw [8] (fun i w' => ∃ k : Nat, k ≤ 16 ∧ i = .int .i64 k ∧ w' = W5) (fun i _ => 16 - (intOf i).toNat)
  case atStart => exact ⟨0, by omega, rfl, rfl⟩
  case round =>
    obtain ⟨k, hk, rfl, rfl⟩ := hrel
    by_cases hk16 : k < 16
    · have k1 : (k : Int) < 16 := by omega
      have k0 : (0 : Int) ≤ (k : Int) := by omega
      have c0 := HT.out.cell HD.out.2 (21 + k) (by omega)
      obtain ⟨x, hx⟩ : ∃ x, f (21 + k) = x := ⟨_, rfl⟩
      have hab := HRT.out.2.2.2.1 k hk16
      dsimp only at hab
      rw [hx] at c0 hab
      have c1 := HQ.out.cell PQ.out (21 + k) (by omega)
      rw [Hst.out k hk16, hx] at c1
      have HHB := Lib.hid (hl_bd hab)
      obtain ⟨y, hy⟩ : ∃ y, hlN x N = y := ⟨_, rfl⟩
      rw [hy] at c1
      have HY := Lib.hid hy
      clear hx hab hy hk
      go_wp2_with fail
      go_loopw [9, 10] (fun v j w' => ∃ i : Nat, i ≤ N ∧ j = .int .i64 i ∧ v = .int .i64 (hlN x i) ∧ w' = wr) (fun _ j _ => N - (intOf j).toNat)
      case atStart => exact ⟨0, by omega, rfl, rfl, rfl⟩
      case round =>
        obtain ⟨i, hi, rfl, rfl, rfl⟩ := hrel
        by_cases hiN : i < N
        · have i1 : (i : Int) < n := by have := HN.out; omega
          obtain ⟨v, hv⟩ : ∃ v, hlN x i = v := ⟨_, rfl⟩
          have hw := HHB.out i
          rw [hv] at hw ⊢
          have HV := Lib.hid (show v.tdiv 2 = hlN x (i + 1) by rw [← hv]; rfl)
          have hwr : wrap64 (v.tdiv 2) = v.tdiv 2 := by have := half_in hw; rwa [wr64] at this
          clear hv hw c0 c1
          go_wp2_with fail
          go_roundw
          case rel => exact ⟨i + 1, by omega, by go_num, by rw [hwr, HV.out], by trivial⟩
          case measure => have := HN.out; simp [intOf]; omega
        · have i1 : ¬ (i : Int) < n := by have := HN.out; omega
          obtain rfl : i = N := by omega
          rw [HY.out]
          clear c0 HHB hi hiN
          go_wp2_with fail
          go_roundw
          case rel => exact ⟨k + 1, by omega, by go_num, by trivial⟩
          case measure => simp [intOf]; omega
    · have k1 : ¬ (k : Int) < 16 := by omega
      clear hk hk16
      go_wp2_with fail
      clear k1
      have HLV := Lib.hid (fun i hi => st_lev (i := i) HRT.out hi N)
      go_loopw [11] (fun i w' => ∃ k : Nat, k ≤ 4 ∧ i = .int .i64 k ∧ Hid (Sta.One w T 25 w') ∧ Hid (At w' b Q 31)) (fun i _ => 4 - (intOf i).toNat)
      case atStart => exact ⟨0, by omega, rfl, HD, PQ⟩
      case round =>
        obtain ⟨k, hk, rfl, HD3, PQ3⟩ := hrel
        clear HD PQ
        by_cases hk4 : k < 4
        · have k1 : (k : Int) < 4 := by omega
          have hlv := HRT.out.2.2.1 k hk4
          have hmq := HLV.out k hk4
          rw [HN.out] at hmq
          obtain ⟨x, hx⟩ : ∃ x, f (17 + k) = x := ⟨_, rfl⟩
          obtain ⟨m, hm⟩ : ∃ m, stN f N (17 + k) = m := ⟨_, rfl⟩
          rw [hx] at hlv
          rw [hx, hm] at hmq
          obtain ⟨y, hy⟩ : ∃ y, x - n = y := ⟨_, rfl⟩
          have hsub : IntKind.i64.wrap (x - n) = y := by rw [IntWalk.i64_in _ (by omega)]; exact hy
          have HMx := Lib.hid (show max y 0 = m by rw [← hy]; exact hmq.symm)
          have HX := Lib.hid hx
          have HMq := Lib.hid hm
          have HD2 := Lib.hid HD3.out.2
          have PQ := PQ3
          obtain ⟨kk, hkk⟩ : ∃ kk : Int, kk = (k : Int) := ⟨_, rfl⟩
          have Hkk := Lib.hid hkk
          clear hlv hmq hx hm hy
          go_wp2_with fail
          rw [← hkk]
          clear hkk
          refine mv_start fun hS => ?_
          refine mv_yield (i := 0) (d := 63) (.int .i64 kk) rfl rfl (by kernel_rfl) (by kernel_rfl) (by kernel_rfl) hS (y_run (by rfl) fun _ => by rfl) ?_
          simp only [Act.put, List.setIfInBounds_toArray, List.set_cons_zero, List.set_cons_succ]
          refine mv_yield (i := 1) (d := 64) (.pointer (some ⟨b, 17, none⟩)) rfl rfl (by kernel_rfl) (by kernel_rfl) (by kernel_rfl) hS (y_field (by rfl) rfl rfl fld_p2) ?_
          simp only [Act.put, List.setIfInBounds_toArray, List.set_cons_zero, List.set_cons_succ]
          refine mv_yield (i := 2) (d := 65) (.pointer (some ⟨b, (17 + k), none⟩)) rfl rfl (by kernel_rfl) (by kernel_rfl) (by kernel_rfl) hS (y_bj (k := k) (by rfl) rfl Try.underlying23 rfl rfl Hkk.out hk4) ?_
          simp only [Act.put, List.setIfInBounds_toArray, List.set_cons_zero, List.set_cons_succ]
          refine mv_yield (i := 3) (d := 66) (.int .i64 m) rfl rfl (by kernel_rfl) (by kernel_rfl) (by kernel_rfl) hS (y_cellS (by rfl) rfl rfl (fun w' h => by have := HQ.out.cell ((PQ.out).below h (PQ.out).lt) (17 + k) (by omega); first | exact this | (rw [HMq.out] at this; exact this))) ?_
          simp only [Act.put, List.setIfInBounds_toArray, List.set_cons_zero, List.set_cons_succ]
          refine mv_yield (i := 4) (d := 67) (.int .i64 kk) rfl rfl (by kernel_rfl) (by kernel_rfl) (by kernel_rfl) hS (y_run (by rfl) fun _ => by rfl) ?_
          simp only [Act.put, List.setIfInBounds_toArray, List.set_cons_zero, List.set_cons_succ]
          refine mv_yield (i := 5) (d := 68) (.pointer (some ⟨w.heap.size, 17, none⟩)) rfl rfl (by kernel_rfl) (by kernel_rfl) (by kernel_rfl) hS (y_field (by rfl) rfl rfl fld_r2) ?_
          simp only [Act.put, List.setIfInBounds_toArray, List.set_cons_zero, List.set_cons_succ]
          refine mv_yield (i := 6) (d := 69) (.pointer (some ⟨w.heap.size, (17 + k), none⟩)) rfl rfl (by kernel_rfl) (by kernel_rfl) (by kernel_rfl) hS (y_bj (k := k) (by rfl) rfl Try.underlying23 rfl rfl Hkk.out hk4) ?_
          simp only [Act.put, List.setIfInBounds_toArray, List.set_cons_zero, List.set_cons_succ]
          refine mv_yield (i := 7) (d := 70) (.int .i64 x) rfl rfl (by kernel_rfl) (by kernel_rfl) (by kernel_rfl) hS (y_cellS (by rfl) rfl rfl (fun w' h => by have := HT.out.cell ((HD2.out).below h (HD2.out).lt) (17 + k) (by omega); first | exact this | (rw [HX.out] at this; exact this))) ?_
          simp only [Act.put, List.setIfInBounds_toArray, List.set_cons_zero, List.set_cons_succ]
          refine mv_yield (i := 8) (d := 71) (.int .i64 n) rfl rfl (by kernel_rfl) (by kernel_rfl) (by kernel_rfl) hS (y_run (by rfl) fun _ => by rfl) ?_
          simp only [Act.put, List.setIfInBounds_toArray, List.set_cons_zero, List.set_cons_succ]
          refine mv_yield (i := 9) (d := 72) (.int .i64 y) rfl rfl (by kernel_rfl) (by kernel_rfl) (by kernel_rfl) hS (y_sub (by rfl) rfl rfl rfl hsub) ?_
          simp only [Act.put, List.setIfInBounds_toArray, List.set_cons_zero, List.set_cons_succ]
          refine mv_yield (i := 10) (d := 73) (.int .i64 m) rfl rfl (by kernel_rfl) (by kernel_rfl) (by kernel_rfl) hS (y_max (by rfl) rfl rfl rfl rfl HMx.out) ?_
          simp only [Act.put, List.setIfInBounds_toArray, List.set_cons_zero, List.set_cons_succ]
          refine mv_yield (i := 11) (d := 74) (.bool false) rfl rfl (by kernel_rfl) (by kernel_rfl) (by kernel_rfl) hS (y_nei (by rfl) rfl rfl rfl (bne_self_eq_false m)) ?_
          simp only [Act.put, List.setIfInBounds_toArray, List.set_cons_zero, List.set_cons_succ]
          refine mv_done (by kernel_rfl) ?_
          replace HD3 := Lib.hid (HD3.out.next hS)
          replace PQ3 := Lib.hid (At.two PQ3.out hS)
          clear hS
          rw [Hkk.out]
          go_wp2_with fail
          go_roundw
          case rel => exact ⟨k + 1, by omega, by go_num, HD3, PQ3⟩
          case measure => simp [intOf]; omega
        · have k1 : ¬ (k : Int) < 4 := by omega
          have c0 := HT.out.cell HD3.out.2 37 (by omega)
          have c1 := HQ.out.cell PQ3.out 37 (by omega)
          rw [st_lost HRT.out, HL.out, HN.out] at c1
          rw [HL.out] at c0
          obtain ⟨m, hm⟩ : ∃ m, min (l + n) 255 = m := ⟨_, rfl⟩
          rw [hm] at c1
          have hm2 : l + n = m := by omega
          have hw : wrap64 (l + n) = m := by rw [IntWalk.wrap64_in _ (by omega)]; exact hm2
          clear hk hk4 hm
          go_wp2_with fail
          go_ret
          exact ⟨rfl, HD3.out.1⟩

theorem lostHalves_walk (T : Array Value) (f : Nat → Int) (z : Int) (hT : IsRow 38 f T) (hz0 : 0 ≤ z) (hz1 : z ≤ 255) (w : World) :
    Calls Try.prog 6 #[.agg T, .int .u8 z] w fun e w' => e = .returned (.bool true) ∧ Below w.heap.size w w' := by
  by_cases hr : Rt f
  · by_cases h8 : f 37 ≤ 8
    · exact lostHalves_in T f z hT hr h8 hz0 hz1 w
    · exact lostHalves_far T f z hT hr (by omega) w
  · exact lostHalves_no T f z hT hr w
end Go.Proofs.Ytfpmajlgbipbmaa.Lo
