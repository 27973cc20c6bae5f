/- LostDies. Written by g41.py. -/
import Derived.Test.YtfpmajlgbipbmaaLoF
import Derived.Test.YtfpmajlgbipbmaaBksY
set_option maxRecDepth 100000
set_option linter.unusedVariables false
namespace Go.Proofs.Ytfpmajlgbipbmaa.Lo
open Go.RowKit Go.Proofs.Ytfpmajlgbipbmaa.Row Go.Proofs.Ytfpmajlgbipbmaa.Md Go.Proofs.Ytfpmajlgbipbmaa.Tl Go.Proofs.Ytfpmajlgbipbmaa.Sta

theorem st_waves {f : Nat → Int} (h : Rt f) {N : Nat} (hN : 9 ≤ N) (i : Nat) (hi : i < 16) : stN f N (21 + i) = 0 := by
  obtain ⟨k, rfl⟩ : ∃ k, N = k + 1 := ⟨N - 1, by omega⟩
  exact st_none h (by omega) i hi

set_option maxHeartbeats 2000000 in
theorem lostDies_no (T : Array Value) (f : Nat → Int) (z : Int) (hT : IsRow 38 f T) (hr : ¬ Rt f) (w : World) :
    Calls Try.prog 3 #[.agg T, .int .u8 z] w fun e w' => e = .returned (.bool true) ∧ Below w.heap.size w w' := by
  obtain ⟨_, _, _, _, hir⟩ := zero_r
  have HRI := Lib.hid (fun w => refRight_any T f false w hT (by simp [hr]))
  have HIR := Lib.hid hir
  have HT := Lib.hid hT
  have HD := Lib.hid (One.start w T 25)
  clear hir hT hr
  go_enter Try.func3, Try.ntmps3
  go_wp2_with fail
  revert HD
  generalize World.alloc _ _ = W
  intro HD
  refine (awake_as W).mono ?_
  rintro e W1 ⟨rfl, hb⟩
  replace HD := Lib.hid (HD.out.next hb)
  clear hb W
  go_wp2_with (refine wpList_load_all (by rfl) 25 _ rfl w.heap.size rfl HT.out HD.out.2 Try.underlying25 rfl HIR.out ?_)
  refine (HRI.out W1).mono ?_
  rintro e W ⟨rfl, hb⟩
  replace HD := Lib.hid (HD.out.next hb)
  clear hb W1
  go_wp2_with fail
  refine (awake_as W).mono ?_
  rintro e W1 ⟨rfl, hb⟩
  replace HD := Lib.hid (HD.out.next hb)
  clear hb
  go_wp2_with fail
  go_ret
  exact ⟨rfl, HD.out.1⟩

set_option maxHeartbeats 2000000 in
theorem lostDies_in (T : Array Value) (f : Nat → Int) (z : Int) (hT : IsRow 38 f T) (hr : Rt f) (hz0 : 0 ≤ z) (hz1 : z ≤ 255) (w : World) :
    Calls Try.prog 3 #[.agg T, .int .u8 z] w fun e w' => e = .returned (.bool true) ∧ Below w.heap.size w w' := by
  obtain ⟨Zp, hZp, _, hzp, hip⟩ := zero_p
  obtain ⟨_, _, _, _, hir⟩ := zero_r
  have HRI := Lib.hid (fun w => refRight_any T f true w hT (by simp [hr]))
  have HIR := Lib.hid hir
  have HIP := Lib.hid hip
  have HZP := Lib.hid hZp.1
  have HT := Lib.hid hT
  have HRT := Lib.hid hr
  have HD := Lib.hid (One.start w T 25)
  obtain ⟨_, _, _, _, hib⟩ := zero_b
  obtain ⟨_, _, _, _, hi4⟩ := zero_4
  have HIB := Lib.hid hib
  have HI4 := Lib.hid hi4
  have hlb := hr.2.2.2.2
  obtain ⟨N, hN⟩ : ∃ N : Nat, z % 40 = N := ⟨(z % 40).toNat, by have := Int.emod_nonneg z (show (40 : Int) ≠ 0 by omega); omega⟩
  have hN40 : N < 40 := by have := Int.emod_lt_of_pos z (show (0 : Int) < 40 by omega); omega
  have htm : z.tmod 40 = N := by rw [Int.tmod_eq_emod_of_nonneg hz0]; exact hN
  have HRU := Lib.hid (run_yes (n := N) rfl (by omega) hT hr)
  obtain ⟨D, hD, bD⟩ := built_b
  obtain ⟨G, hG, bG⟩ := built_4r
  have HGD := Lib.hid hD
  have HBD := Lib.hid bD
  have HGG := Lib.hid hG
  have HBG := Lib.hid bG
  clear hir hip hib hi4 hZp hT hr hD bD hG bG
  go_enter Try.func3, Try.ntmps3
  go_wp2_with fail
  revert HD
  generalize World.alloc _ _ = W
  intro HD
  refine (awake_as W).mono ?_
  rintro e W1 ⟨rfl, hb⟩
  replace HD := Lib.hid (HD.out.next hb)
  clear hb W
  go_wp2_with (refine wpList_load_all (by rfl) 25 _ rfl w.heap.size rfl HT.out HD.out.2 Try.underlying25 rfl HIR.out ?_)
  refine (HRI.out W1).mono ?_
  rintro e W ⟨rfl, hb⟩
  replace HD := Lib.hid (HD.out.next hb)
  clear hb W1
  go_wp2_with (refine wpList_load_all (by rfl) 25 _ rfl w.heap.size rfl HT.out HD.out.2 Try.underlying25 rfl HIR.out ?_)
  refine (of_as T f _ HT.out).mono ?_
  rintro e W1 ⟨rfl, hb⟩
  replace HD := Lib.hid (HD.out.next hb)
  clear hb W
  go_wp2_with fail
  refine (HRU.out W1).mono ?_
  rintro e W ⟨a, c, Q, rfl, hQ, hBK, hb⟩
  have HQ := Lib.hid hQ
  have HBK := Lib.hid hBK
  replace HD := Lib.hid (HD.out.next hb)
  clear hb hQ hBK HRU
  go_wp2_with (
    (refine wpList_store_row rfl 31 _ _ rfl W.heap.size Q rfl rfl _ _ (heap_alloc_new _ _) (HIP.out _ HQ.out.1) (by rw [HZP.out, HQ.out.1]) HQ.out.2.1 ?_; rw [World.setRow_alloc_new]))
  have hb := (Below.refl W.heap.size W).alloc (Nat.le_refl _) (.cells Q 31)
  replace HD := Lib.hid (HD.out.next hb)
  replace HBK := Lib.hid (HBK.out.below hb)
  have PQ := Lib.hid (At.new W Q 31)
  clear hb
  revert HD HBK PQ
  generalize W1.heap.size = B0
  generalize W.heap.size = b
  generalize World.alloc _ _ = W5
  intro HD HBK PQ
  clear W W1
  go_loopw [8] (fun i w' => ∃ k : Nat, k ≤ N ∧ i = .int .i64 k ∧ w' = W5) (fun i _ => N - (intOf i).toNat)
  case atStart => exact ⟨0, by omega, rfl, rfl⟩
  case round =>
    obtain ⟨k, hk, rfl, rfl⟩ := hrel
    by_cases hkN : k < N
    · have k1 : (k : Int) < N := by omega
      obtain ⟨g, rfl, hx1, hx2⟩ := HBK.out.addr (by omega)
      clear hx1 hx2
      have hix := fun w => run_bx (c := c) (g := g) hkN w
      go_wp2_with fail
      go_loopw [9] (fun j w' => ∃ i : Nat, i ≤ 16 ∧ j = .int .i64 i ∧ w' = wr) (fun j _ => 16 - (intOf j).toNat)
      case atStart => exact ⟨0, by omega, rfl, rfl⟩
      case round =>
        obtain ⟨i, hi, rfl, rfl⟩ := hrel
        by_cases hi16 : i < 16
        · have i1 : (i : Int) < 16 := by omega
          have i0 : (0 : Int) ≤ (i : Int) := by omega
          have c0 := HBK.out.cell hkN hi16
          have hbd := sl_bd (stN f k) i
          obtain ⟨q, hq⟩ : ∃ q, slF (stN f k) i = q := ⟨_, rfl⟩
          rw [show soN f k i = q from hq] at c0
          rw [hq] at hbd
          obtain ⟨q1, q2⟩ := hbd
          have d1 : decide (q < -32768) = false := decide_eq_false (by omega)
          have d2 : decide (32767 < q) = false := decide_eq_false (by omega)
          clear hq hi
          go_wp2_with fail
          go_roundw
          case rel => exact ⟨i + 1, by omega, by go_num, by trivial⟩
          case measure => simp [intOf]; omega
        · have i1 : ¬ (i : Int) < 16 := by omega
          clear hi hi16
          go_wp2_with fail
          go_roundw
          case rel => exact ⟨k + 1, by omega, by go_num, by trivial⟩
          case measure => simp [intOf]; omega
    · have k1 : ¬ (k : Int) < N := by omega
      clear hk
      obtain ⟨l, hl⟩ : ∃ l, f 37 = l := ⟨_, rfl⟩
      have hlb := HRT.out.2.2.2.2
      rw [hl] at hlb
      have c0 := HT.out.cell HD.out.2 37 (by omega)
      have c1 := HQ.out.cell PQ.out 37 (by omega)
      rw [st_lost HRT.out, hl] at c1
      rw [hl] at c0
      obtain ⟨m, hm⟩ : ∃ m, min (l + N) 255 = m := ⟨_, rfl⟩
      rw [hm] at c1
      have hw : wrap64 (l + N) = l + N := IntWalk.wrap64_in _ (by omega)
      have rm := run_min2 (l + N) 255 m hm
      have HR2 := Lib.hid (run_yes (n := 200) (N := 200) rfl (by omega) HQ.out (st_right HRT.out N))
      have HF0 := Lib.hid (show (∀ j, j < 16 → soN (stN f N) 199 j = 0) ∧ (∀ i, i < 16 → stN (stN f N) 200 (21 + i) = 0) ∧ (∀ i, i < 4 → stN (stN f N) 200 (17 + i) = 0) from
        ⟨fun j hj => sl_none (st_right HRT.out N) (k := 199) (by omega) j hj, fun i hi => st_waves (st_right HRT.out N) (by omega) i hi, fun i hi => by
          rw [st_lev (st_right HRT.out N) hi]
          have := (st_right HRT.out N).2.2.1 i hi
          omega⟩)
      have hm2 := hm
      clear hl hm hlb
      have e1 := rows_eq HGD.out HGD.out (fun _ _ => rfl) Try.underlying29
      have e2 := rows_eq HGG.out HGG.out (fun _ _ => rfl) Try.underlying23
      by_cases h10 : 10 ≤ N
      · have d10 : decide ((N : Int) ≥ 10) = true := decide_eq_true (by omega)
        go_wp2_with (first
          | refine wpList_load_part (by rfl) 29 _ rfl b 21 rfl HQ.out PQ.out HGD.out (by omega) (fun i hi => st_waves HRT.out (by omega) i hi) Try.underlying29 rfl (HIB.out _ HGD.out.1) ?_
          | refine wpList_build_parts (by rfl) 29 [] rfl _ rfl HBD.out ?_
          | refine wpList_load_all (by rfl) 31 _ rfl b rfl HQ.out PQ.out Try.underlying31 rfl HIP.out ?_)
        clear d10 c0 c1 rm hw hm2
        refine (HR2.out wr).mono ?_
        rintro e W ⟨a2, c2, Q2, rfl, hQ2, hBK2, hb⟩
        have HQ2 := Lib.hid hQ2
        obtain ⟨g, rfl, hx1, hx2⟩ := hBK2.addr (by omega)
        clear hx1 hx2
        have HBK2 := Lib.hid hBK2
        replace HD := Lib.hid (HD.out.next hb)
        clear hb hQ2 hBK2 HR2 PQ HBK
        have hix : ∀ w, (Instr.indexAt 28 (.slice (some ⟨g, 0, none⟩) 200 c2) (.int .i64 199)).run Try.prog w = .ok (.pointer (some ⟨g, 3184, none⟩)) w := fun w => run_bx (k := 199) (by omega) w
        have HF := Lib.hid HF0.out
        go_wp2_with (first
          | (refine wpList_store_row rfl 31 _ _ rfl W.heap.size Q2 rfl rfl _ _ (heap_alloc_new _ _) (HIP.out _ HQ2.out.1) (by rw [HZP.out, HQ2.out.1]) HQ2.out.2.1 ?_; rw [World.setRow_alloc_new]
             have hb := (Below.refl W.heap.size W).alloc (Nat.le_refl _) (.cells Q2 31)
             replace HD := Lib.hid (HD.out.next hb)
             replace HBK2 := Lib.hid (HBK2.out.below hb)
             have PQ2 := Lib.hid (At.new W Q2 31)
             clear hb
             revert HD HBK2 PQ2
             generalize wr.heap.size = B2
             generalize W.heap.size = b2
             generalize World.alloc _ _ = W5
             intro HD HBK2 PQ2
             have HRG := Lib.hid (show W5.rangeAt g (199 * 16) D.toList from HBK2.out.range (by omega) (HGD.out.ext fun j hj => (HF.out.1 j hj).symm)))
          | refine wpList_load_range (by rfl) 29 _ rfl g 3184 rfl HRG.out Try.underlying29 rfl (HIB.out _ HGD.out.1) ?_
          | refine wpList_build_parts (by rfl) 29 [] rfl _ rfl HBD.out ?_
          | refine wpList_build_parts (by rfl) 23 [] rfl _ rfl HBG.out ?_
          | refine wpList_load_part (by rfl) 29 _ rfl b2 21 rfl HQ2.out PQ2.out HGD.out (by omega) HF.out.2.1 Try.underlying29 rfl (HIB.out _ HGD.out.1) ?_
          | refine wpList_load_part (by rfl) 23 _ rfl b2 17 rfl HQ2.out PQ2.out HGG.out (by omega) HF.out.2.2 Try.underlying23 rfl (HI4.out _ HGG.out.1) ?_)
        go_ret
        exact ⟨rfl, HD.out.1⟩
      · have d10 : decide ((N : Int) ≥ 10) = false := decide_eq_false (by omega)
        go_wp2_with (first
          | fail
          | refine wpList_load_all (by rfl) 31 _ rfl b rfl HQ.out PQ.out Try.underlying31 rfl HIP.out ?_)
        clear d10 c0 c1 rm hw hm2
        refine (HR2.out wr).mono ?_
        rintro e W ⟨a2, c2, Q2, rfl, hQ2, hBK2, hb⟩
        have HQ2 := Lib.hid hQ2
        obtain ⟨g, rfl, hx1, hx2⟩ := hBK2.addr (by omega)
        clear hx1 hx2
        have HBK2 := Lib.hid hBK2
        replace HD := Lib.hid (HD.out.next hb)
        clear hb hQ2 hBK2 HR2 PQ HBK
        have hix : ∀ w, (Instr.indexAt 28 (.slice (some ⟨g, 0, none⟩) 200 c2) (.int .i64 199)).run Try.prog w = .ok (.pointer (some ⟨g, 3184, none⟩)) w := fun w => run_bx (k := 199) (by omega) w
        have HF := Lib.hid HF0.out
        go_wp2_with (first
          | (refine wpList_store_row rfl 31 _ _ rfl W.heap.size Q2 rfl rfl _ _ (heap_alloc_new _ _) (HIP.out _ HQ2.out.1) (by rw [HZP.out, HQ2.out.1]) HQ2.out.2.1 ?_; rw [World.setRow_alloc_new]
             have hb := (Below.refl W.heap.size W).alloc (Nat.le_refl _) (.cells Q2 31)
             replace HD := Lib.hid (HD.out.next hb)
             replace HBK2 := Lib.hid (HBK2.out.below hb)
             have PQ2 := Lib.hid (At.new W Q2 31)
             clear hb
             revert HD HBK2 PQ2
             generalize wr.heap.size = B2
             generalize W.heap.size = b2
             generalize World.alloc _ _ = W5
             intro HD HBK2 PQ2
             have HRG := Lib.hid (show W5.rangeAt g (199 * 16) D.toList from HBK2.out.range (by omega) (HGD.out.ext fun j hj => (HF.out.1 j hj).symm)))
          | refine wpList_load_range (by rfl) 29 _ rfl g 3184 rfl HRG.out Try.underlying29 rfl (HIB.out _ HGD.out.1) ?_
          | refine wpList_build_parts (by rfl) 29 [] rfl _ rfl HBD.out ?_
          | refine wpList_build_parts (by rfl) 23 [] rfl _ rfl HBG.out ?_
          | refine wpList_load_part (by rfl) 29 _ rfl b2 21 rfl HQ2.out PQ2.out HGD.out (by omega) HF.out.2.1 Try.underlying29 rfl (HIB.out _ HGD.out.1) ?_
          | refine wpList_load_part (by rfl) 23 _ rfl b2 17 rfl HQ2.out PQ2.out HGG.out (by omega) HF.out.2.2 Try.underlying23 rfl (HI4.out _ HGG.out.1) ?_)
        go_ret
        exact ⟨rfl, HD.out.1⟩

theorem lostDies_walk (T : Array Value) (f : Nat → Int) (z : Int) (hT : IsRow 38 f T) (hz0 : 0 ≤ z) (hz1 : z ≤ 255) (w : World) :
    Calls Try.prog 3 #[.agg T, .int .u8 z] w fun e w' => e = .returned (.bool true) ∧ Below w.heap.size w w' := by
  by_cases hr : Rt f
  · exact lostDies_in T f z hT hr hz0 hz1 w
  · exact lostDies_no T f z hT hr w
end Go.Proofs.Ytfpmajlgbipbmaa.Lo
