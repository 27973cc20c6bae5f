/- Texts of the walk, one behind the other. -/
import Derived.Test.YtimhemcoflpmcaaGreatDoorDecPlaysM47
import Derived.Test.YtimhemcoflpmcaaGreatDoorDecPlaysM48
import Derived.Test.YtimhemcoflpmcaaGreatDoorDecPlaysM37
import Derived.Test.YtimhemcoflpmcaaGreatDoorDecPlaysM45

section
/- DecPlays: the walks. Written by g35.py. -/
set_option maxRecDepth 100000
set_option linter.unusedVariables false
namespace Go.Proofs.YtimhemcoflpmcaaGreatDoor.De
open Go.RowKit Go.Proofs.YtimhemcoflpmcaaGreatDoor.Row Go.Proofs.YtimhemcoflpmcaaGreatDoor.Rg Go.Proofs.YtimhemcoflpmcaaGreatDoor.Sta

set_option maxHeartbeats 4000000 in
theorem decPlays_long (T : Array Value) (f : Nat → Int) (B : ByteArray) (n : Nat) (w : World) (hT : IsRow 38 f T) (hn : B.size = n) (h : 200 < n) (hTab : Lv.Tab w) :
    Calls Tryz.prog 3 #[.agg T, .string B] w fun e w' => e = .returned (.bool true) ∧ Below w.heap.size w w' := by
  obtain ⟨Zp, hZp, _, hzp, hip⟩ := zero_p
  obtain ⟨Zb, hZb, _, hzb, hib⟩ := zero_b
  obtain ⟨Zr, hZr, _, hzr, hir⟩ := zero_r
  obtain ⟨Z4, hZ4, _, hz4, hi4⟩ := zero_4
  obtain ⟨Za, hZa, _, hza, hia⟩ := zero_a
  obtain ⟨D, hD, bD⟩ := built_b
  obtain ⟨G, hG, bG⟩ := built_4r
  have hV := hT.sub (show 17 + 4 ≤ 38 by omega)
  obtain ⟨V, hVe⟩ : ∃ M, T.extract 17 (17 + 4) = M := ⟨_, rfl⟩
  rw [hVe] at hV
  obtain ⟨S, hS, bS⟩ := built_lev isSt_r hV
  have l1 : (200 : Int) < n := by omega
  have HW := Lib.hid (One.start w T 25)
  have HT := Lib.hid hTab
  have HR := Lib.hid hT
  have HV4 := Lib.hid (show IsRow 4 _ (T.extract 17 (17 + 4)) from hT.sub (show 17 + 4 ≤ 38 by omega))
  rw [hVe] at HV4
  have HD := Lib.hid hD
  have HBD := Lib.hid bD
  have HG := Lib.hid hG
  have HBG := Lib.hid bG
  have HBS := Lib.hid bS
  have HIP := Lib.hid hip
  have HIB := Lib.hid hib
  have HIR := Lib.hid hir
  have HI4 := Lib.hid hi4
  have HIA := Lib.hid hia
  have HZP := Lib.hid hZp.1
  have HZB := Lib.hid hZb.1
  have HZR := Lib.hid hZr.1
  have HZ4 := Lib.hid hZ4.1
  have HZA := Lib.hid hZa.1
  clear hTab hT hD bD hG bG hip hib hir hi4 hia hZp hZb hZr hZ4 hZa hV hVe hS bS h
  go_enter Tryz.func3, Tryz.ntmps3
  go_wp2_with fail
  refine (awake_as _ (HT.out.next HW.out.1)).mono ?_
  rintro e W1 ⟨rfl, hb⟩
  replace HW := Lib.hid (HW.out.next hb)
  clear hb
  go_wp2_with fail
  refine (awake_as _ (HT.out.next HW.out.1)).mono ?_
  rintro e W2 ⟨rfl, hb⟩
  replace HW := Lib.hid (HW.out.next hb)
  clear hb
  go_wp2_with fail
  go_ret
  exact ⟨rfl, HW.out.1⟩

set_option maxHeartbeats 4000000 in
theorem decPlays_few (T : Array Value) (f : Nat → Int) (B : ByteArray) (n : Nat) (w : World) (hT : IsRow 38 f T) (hn : B.size = n) (h2 : n ≤ 200) (h : n < 10) (hTab : Lv.Tab w) :
    Calls Tryz.prog 3 #[.agg T, .string B] w fun e w' => e = .returned (.bool true) ∧ Below w.heap.size w w' := by
  obtain ⟨Zp, hZp, _, hzp, hip⟩ := zero_p
  obtain ⟨Zb, hZb, _, hzb, hib⟩ := zero_b
  obtain ⟨Zr, hZr, _, hzr, hir⟩ := zero_r
  obtain ⟨Z4, hZ4, _, hz4, hi4⟩ := zero_4
  obtain ⟨Za, hZa, _, hza, hia⟩ := zero_a
  obtain ⟨D, hD, bD⟩ := built_b
  obtain ⟨G, hG, bG⟩ := built_4r
  have hV := hT.sub (show 17 + 4 ≤ 38 by omega)
  obtain ⟨V, hVe⟩ : ∃ M, T.extract 17 (17 + 4) = M := ⟨_, rfl⟩
  rw [hVe] at hV
  obtain ⟨S, hS, bS⟩ := built_lev isSt_r hV
  have HP := Lib.hid (fun w' hT' => as_P (parts_size V _ B n w' hV hn (by omega) (by unfold maxLen; omega) hT') hG hD)
  have l1 : ¬ (200 : Int) < n := by omega
  have l2 : (n : Int) < 10 := by omega
  have e1 := rows_eq hG hG (fun _ _ => rfl) Tryz.underlying23
  have e2 := rows_eq hD hD (fun _ _ => rfl) Tryz.underlying27
  have HW := Lib.hid (One.start w T 25)
  have HT := Lib.hid hTab
  have HR := Lib.hid hT
  have HV4 := Lib.hid (show IsRow 4 _ (T.extract 17 (17 + 4)) from hT.sub (show 17 + 4 ≤ 38 by omega))
  rw [hVe] at HV4
  have HD := Lib.hid hD
  have HBD := Lib.hid bD
  have HG := Lib.hid hG
  have HBG := Lib.hid bG
  have HBS := Lib.hid bS
  have HIP := Lib.hid hip
  have HIB := Lib.hid hib
  have HIR := Lib.hid hir
  have HI4 := Lib.hid hi4
  have HIA := Lib.hid hia
  have HZP := Lib.hid hZp.1
  have HZB := Lib.hid hZb.1
  have HZR := Lib.hid hZr.1
  have HZ4 := Lib.hid hZ4.1
  have HZA := Lib.hid hZa.1
  clear hTab hT hD bD hG bG hip hib hir hi4 hia hZp hZb hZr hZ4 hZa hV hVe hS bS
  go_enter Tryz.func3, Tryz.ntmps3
  go_wp2_with fail
  refine (awake_as _ (HT.out.next HW.out.1)).mono ?_
  rintro e W1 ⟨rfl, hb⟩
  replace HW := Lib.hid (HW.out.next hb)
  clear hb
  go_wp2_with (refine wpList_load_part (by rfl) 23 _ rfl w.heap.size 17 rfl HR.out HW.out.2 HV4.out (by omega) (fun i _ => rfl) Tryz.underlying23 rfl (HI4.out _ HV4.out.1) ?_)
  refine (HP.out _ (HT.out.next HW.out.1)).mono ?_
  rintro e w3 ⟨rfl, hb⟩
  replace HW := Lib.hid (HW.out.next hb)
  have HU := Lib.hid (Duo.start (Below.refl w3.heap.size w3) Z4 Zb 23 27)
  clear hb HP
  go_wp2_with (first
    | (refine wpList_store_row rfl 23 _ _ rfl w3.heap.size G rfl rfl _ _ HU.out.2.2.1 (HI4.out _ HG.out.1) (by rw [HZ4.out, HG.out.1]) HG.out.2.1 ?_
       replace HU := Lib.hid (HU.out.set1 G)
       revert HU
       generalize World.setRow _ _ _ = W4
       intro HU)
    | (refine wpList_store_row rfl 27 _ _ rfl (w3.heap.size + 1) D rfl rfl _ _ HU.out.2.2.2 (HIB.out _ HD.out.1) (by rw [HZB.out, HD.out.1]) HD.out.2.1 ?_
       replace HU := Lib.hid (HU.out.set2 D)
       have HV := Lib.hid (HW.out.next HU.out.1)
       clear HW
       revert HU HV
       generalize World.setRow _ _ _ = W5
       intro HU HV)
    | refine wpList_load_all (by rfl) 23 _ rfl w3.heap.size rfl HG.out HU.out.2.2.1 Tryz.underlying23 rfl HI4.out ?_
    | refine wpList_load_all (by rfl) 27 _ rfl (w3.heap.size + 1) rfl HD.out HU.out.2.2.2 Tryz.underlying27 rfl HIB.out ?_
    | refine wpList_build_parts (by rfl) 23 [] rfl _ rfl HBG.out ?_
    | refine wpList_build_parts (by rfl) 27 [] rfl _ rfl HBD.out ?_)
  go_ret
  exact ⟨rfl, HV.out.1⟩

set_option maxHeartbeats 4000000 in
theorem decPlays_many (T : Array Value) (f : Nat → Int) (B : ByteArray) (n : Nat) (w : World) (hT : IsRow 38 f T) (hn : B.size = n) (h2 : n ≤ 200) (h : 32 < n) (hTab : Lv.Tab w) :
    Calls Tryz.prog 3 #[.agg T, .string B] w fun e w' => e = .returned (.bool true) ∧ Below w.heap.size w w' := by
  obtain ⟨Zp, hZp, _, hzp, hip⟩ := zero_p
  obtain ⟨Zb, hZb, _, hzb, hib⟩ := zero_b
  obtain ⟨Zr, hZr, _, hzr, hir⟩ := zero_r
  obtain ⟨Z4, hZ4, _, hz4, hi4⟩ := zero_4
  obtain ⟨Za, hZa, _, hza, hia⟩ := zero_a
  obtain ⟨D, hD, bD⟩ := built_b
  obtain ⟨G, hG, bG⟩ := built_4r
  have hV := hT.sub (show 17 + 4 ≤ 38 by omega)
  obtain ⟨V, hVe⟩ : ∃ M, T.extract 17 (17 + 4) = M := ⟨_, rfl⟩
  rw [hVe] at hV
  obtain ⟨S, hS, bS⟩ := built_lev isSt_r hV
  have HP := Lib.hid (fun w' hT' => as_P (parts_size V _ B n w' hV hn (by omega) (by unfold maxLen; omega) hT') hG hD)
  have l1 : ¬ (200 : Int) < n := by omega
  have l2 : ¬ (n : Int) < 10 := by omega
  have l3 : (32 : Int) < n := by omega
  have e1 := rows_eq hG hG (fun _ _ => rfl) Tryz.underlying23
  have e2 := rows_eq hD hD (fun _ _ => rfl) Tryz.underlying27
  have HW := Lib.hid (One.start w T 25)
  have HT := Lib.hid hTab
  have HR := Lib.hid hT
  have HV4 := Lib.hid (show IsRow 4 _ (T.extract 17 (17 + 4)) from hT.sub (show 17 + 4 ≤ 38 by omega))
  rw [hVe] at HV4
  have HD := Lib.hid hD
  have HBD := Lib.hid bD
  have HG := Lib.hid hG
  have HBG := Lib.hid bG
  have HBS := Lib.hid bS
  have HIP := Lib.hid hip
  have HIB := Lib.hid hib
  have HIR := Lib.hid hir
  have HI4 := Lib.hid hi4
  have HIA := Lib.hid hia
  have HZP := Lib.hid hZp.1
  have HZB := Lib.hid hZb.1
  have HZR := Lib.hid hZr.1
  have HZ4 := Lib.hid hZ4.1
  have HZA := Lib.hid hZa.1
  clear hTab hT hD bD hG bG hip hib hir hi4 hia hZp hZb hZr hZ4 hZa hV hVe hS bS
  go_enter Tryz.func3, Tryz.ntmps3
  go_wp2_with fail
  refine (awake_as _ (HT.out.next HW.out.1)).mono ?_
  rintro e W1 ⟨rfl, hb⟩
  replace HW := Lib.hid (HW.out.next hb)
  clear hb
  go_wp2_with (refine wpList_load_part (by rfl) 23 _ rfl w.heap.size 17 rfl HR.out HW.out.2 HV4.out (by omega) (fun i _ => rfl) Tryz.underlying23 rfl (HI4.out _ HV4.out.1) ?_)
  refine (HP.out _ (HT.out.next HW.out.1)).mono ?_
  rintro e w3 ⟨rfl, hb⟩
  replace HW := Lib.hid (HW.out.next hb)
  have HU := Lib.hid (Duo.start (Below.refl w3.heap.size w3) Z4 Zb 23 27)
  clear hb HP
  go_wp2_with (first
    | (refine wpList_store_row rfl 23 _ _ rfl w3.heap.size G rfl rfl _ _ HU.out.2.2.1 (HI4.out _ HG.out.1) (by rw [HZ4.out, HG.out.1]) HG.out.2.1 ?_
       replace HU := Lib.hid (HU.out.set1 G)
       revert HU
       generalize World.setRow _ _ _ = W4
       intro HU)
    | (refine wpList_store_row rfl 27 _ _ rfl (w3.heap.size + 1) D rfl rfl _ _ HU.out.2.2.2 (HIB.out _ HD.out.1) (by rw [HZB.out, HD.out.1]) HD.out.2.1 ?_
       replace HU := Lib.hid (HU.out.set2 D)
       have HV := Lib.hid (HW.out.next HU.out.1)
       clear HW
       revert HU HV
       generalize World.setRow _ _ _ = W5
       intro HU HV)
    | refine wpList_load_all (by rfl) 23 _ rfl w3.heap.size rfl HG.out HU.out.2.2.1 Tryz.underlying23 rfl HI4.out ?_
    | refine wpList_load_all (by rfl) 27 _ rfl (w3.heap.size + 1) rfl HD.out HU.out.2.2.2 Tryz.underlying27 rfl HIB.out ?_
    | refine wpList_build_parts (by rfl) 23 [] rfl _ rfl HBG.out ?_
    | refine wpList_build_parts (by rfl) 27 [] rfl _ rfl HBD.out ?_)
  go_ret
  exact ⟨rfl, HV.out.1⟩

set_option maxHeartbeats 4000000 in
theorem decPlays_bad (T : Array Value) (f : Nat → Int) (B : ByteArray) (n : Nat) (w : World) (hT : IsRow 38 f T) (hn : B.size = n) (h : 10 ≤ n ∧ n ≤ 32) (hL : ¬ Sp.okL fun i => f (17 + i)) (hTab : Lv.Tab w) :
    Calls Tryz.prog 3 #[.agg T, .string B] w fun e w' => e = .returned (.bool true) ∧ Below w.heap.size w w' := by
  obtain ⟨Zp, hZp, _, hzp, hip⟩ := zero_p
  obtain ⟨Zb, hZb, _, hzb, hib⟩ := zero_b
  obtain ⟨Zr, hZr, _, hzr, hir⟩ := zero_r
  obtain ⟨Z4, hZ4, _, hz4, hi4⟩ := zero_4
  obtain ⟨Za, hZa, _, hza, hia⟩ := zero_a
  obtain ⟨D, hD, bD⟩ := built_b
  obtain ⟨G, hG, bG⟩ := built_4r
  have hV := hT.sub (show 17 + 4 ≤ 38 by omega)
  obtain ⟨V, hVe⟩ : ∃ M, T.extract 17 (17 + 4) = M := ⟨_, rfl⟩
  rw [hVe] at hV
  obtain ⟨S, hS, bS⟩ := built_lev isSt_r hV
  have HP := Lib.hid (fun w' hT' => as_P (parts_no V _ B n w' hV hn h hL hT') hG hD)
  have HL := Lib.hid (fun w' => refRight_any S _ false w' hS (by simp [lev_right, hL]))
  have l1 : ¬ (200 : Int) < n := by omega
  have l2 : ¬ (n : Int) < 10 := by omega
  have l3 : ¬ (32 : Int) < n := by omega
  have e1 := rows_eq hG hG (fun _ _ => rfl) Tryz.underlying23
  have e2 := rows_eq hD hD (fun _ _ => rfl) Tryz.underlying27
  have HW := Lib.hid (One.start w T 25)
  have HT := Lib.hid hTab
  have HR := Lib.hid hT
  have HV4 := Lib.hid (show IsRow 4 _ (T.extract 17 (17 + 4)) from hT.sub (show 17 + 4 ≤ 38 by omega))
  rw [hVe] at HV4
  have HD := Lib.hid hD
  have HBD := Lib.hid bD
  have HG := Lib.hid hG
  have HBG := Lib.hid bG
  have HBS := Lib.hid bS
  have HIP := Lib.hid hip
  have HIB := Lib.hid hib
  have HIR := Lib.hid hir
  have HI4 := Lib.hid hi4
  have HIA := Lib.hid hia
  have HZP := Lib.hid hZp.1
  have HZB := Lib.hid hZb.1
  have HZR := Lib.hid hZr.1
  have HZ4 := Lib.hid hZ4.1
  have HZA := Lib.hid hZa.1
  clear hTab hT hD bD hG bG hip hib hir hi4 hia hZp hZb hZr hZ4 hZa hV hVe hS bS h hL
  go_enter Tryz.func3, Tryz.ntmps3
  go_wp2_with fail
  refine (awake_as _ (HT.out.next HW.out.1)).mono ?_
  rintro e W1 ⟨rfl, hb⟩
  replace HW := Lib.hid (HW.out.next hb)
  clear hb
  go_wp2_with (refine wpList_load_part (by rfl) 23 _ rfl w.heap.size 17 rfl HR.out HW.out.2 HV4.out (by omega) (fun i _ => rfl) Tryz.underlying23 rfl (HI4.out _ HV4.out.1) ?_)
  refine (HP.out _ (HT.out.next HW.out.1)).mono ?_
  rintro e w3 ⟨rfl, hb⟩
  replace HW := Lib.hid (HW.out.next hb)
  have HU := Lib.hid (Duo.start (Below.refl w3.heap.size w3) Z4 Zb 23 27)
  clear hb HP
  go_wp2_with (first
    | (refine wpList_store_row rfl 23 _ _ rfl w3.heap.size G rfl rfl _ _ HU.out.2.2.1 (HI4.out _ HG.out.1) (by rw [HZ4.out, HG.out.1]) HG.out.2.1 ?_
       replace HU := Lib.hid (HU.out.set1 G)
       revert HU
       generalize World.setRow _ _ _ = W4
       intro HU)
    | (refine wpList_store_row rfl 27 _ _ rfl (w3.heap.size + 1) D rfl rfl _ _ HU.out.2.2.2 (HIB.out _ HD.out.1) (by rw [HZB.out, HD.out.1]) HD.out.2.1 ?_
       replace HU := Lib.hid (HU.out.set2 D)
       have HV := Lib.hid (HW.out.next HU.out.1)
       clear HW
       revert HU HV
       generalize World.setRow _ _ _ = W5
       intro HU HV)
    | refine wpList_load_part (by rfl) 23 _ rfl w.heap.size 17 rfl HR.out HV.out.2 HV4.out (by omega) (fun i _ => rfl) Tryz.underlying23 rfl (HI4.out _ HV4.out.1) ?_
    | refine wpList_build_parts (by rfl) 25 [(2, _)] rfl _ rfl HBS.out ?_)
  refine (HL.out _).mono ?_
  rintro e W6 ⟨rfl, hb⟩
  replace HV := Lib.hid (HV.out.next hb)
  replace HU := Lib.hid (HU.out.next hb)
  clear hb HL
  go_wp2_with (first
    | refine wpList_load_all (by rfl) 23 _ rfl w3.heap.size rfl HG.out HU.out.2.2.1 Tryz.underlying23 rfl HI4.out ?_
    | refine wpList_load_all (by rfl) 27 _ rfl (w3.heap.size + 1) rfl HD.out HU.out.2.2.2 Tryz.underlying27 rfl HIB.out ?_
    | refine wpList_build_parts (by rfl) 23 [] rfl _ rfl HBG.out ?_
    | refine wpList_build_parts (by rfl) 27 [] rfl _ rfl HBD.out ?_)
  go_ret
  exact ⟨rfl, HV.out.1⟩

set_option maxHeartbeats 4000000 in
theorem decPlays_wrong (T : Array Value) (f : Nat → Int) (B : ByteArray) (n : Nat) (w : World) (hT : IsRow 38 f T) (hn : B.size = n) (h : 10 ≤ n ∧ n ≤ 32) (hL : Sp.okL fun i => f (17 + i)) (hr : ¬ Rt f) (s : List UInt8) (hs : ⟨s.toArray⟩ = B) (hTab : Lv.Tab w) :
    Calls Tryz.prog 3 #[.agg T, .string B] w fun e w' => e = .returned (.bool true) ∧ Below w.heap.size w w' := by
  obtain ⟨Zp, hZp, _, hzp, hip⟩ := zero_p
  obtain ⟨Zb, hZb, _, hzb, hib⟩ := zero_b
  obtain ⟨Zr, hZr, _, hzr, hir⟩ := zero_r
  obtain ⟨Z4, hZ4, _, hz4, hi4⟩ := zero_4
  obtain ⟨Za, hZa, _, hza, hia⟩ := zero_a
  obtain ⟨D, hD, bD⟩ := built_b
  obtain ⟨G, hG, bG⟩ := built_4r
  have hV := hT.sub (show 17 + 4 ≤ 38 by omega)
  obtain ⟨V, hVe⟩ : ∃ M, T.extract 17 (17 + 4) = M := ⟨_, rfl⟩
  rw [hVe] at hV
  obtain ⟨S, hS, bS⟩ := built_lev isSt_r hV
  obtain ⟨R, hR2⟩ : ∃ R, IsRow 4 (lB (byteF s) fun i => f (17 + i)) R := ⟨_, isRow _ _⟩
  obtain ⟨U, hU2⟩ : ∃ U, IsRow 16 (wB (byteF s) (fun i => f (17 + i)) n) U := ⟨_, isRow _ _⟩
  have HP := Lib.hid (fun w' hT' => as_P (parts_yes V _ B s n w' hV hs hn h hL hT') hR2 hU2)
  have HQ := Lib.hid (fun w' => as_Q (refParts_as V _ B s n w' hV hs hn h hL) hR2 hU2)
  have HL := Lib.hid (fun w' => refRight_any S _ true w' hS (by simp [lev_right, hL]))
  have HRR := Lib.hid hR2
  have HUU := Lib.hid hU2
  have e1 := rows_eq hR2 hR2 (fun _ _ => rfl) Tryz.underlying23
  have e2 := rows_eq hU2 hU2 (fun _ _ => rfl) Tryz.underlying27
  obtain ⟨E, hE, bE⟩ := built_0 isSt_p
  have HC := Lib.hid (fun w' hT' => as_D (decode_no T f B n w' hT hn h hr hT') hD hE)
  have HRT := Lib.hid (fun w' => refRight_any T f false w' hT (by simp [hr]))
  have HE := Lib.hid hE
  have l1 : ¬ (200 : Int) < n := by omega
  have l2 : ¬ (n : Int) < 10 := by omega
  have l3 : ¬ (32 : Int) < n := by omega
  have HW := Lib.hid (One.start w T 25)
  have HT := Lib.hid hTab
  have HR := Lib.hid hT
  have HV4 := Lib.hid (show IsRow 4 _ (T.extract 17 (17 + 4)) from hT.sub (show 17 + 4 ≤ 38 by omega))
  rw [hVe] at HV4
  have HD := Lib.hid hD
  have HBD := Lib.hid bD
  have HG := Lib.hid hG
  have HBG := Lib.hid bG
  have HBS := Lib.hid bS
  have HIP := Lib.hid hip
  have HIB := Lib.hid hib
  have HIR := Lib.hid hir
  have HI4 := Lib.hid hi4
  have HIA := Lib.hid hia
  have HZP := Lib.hid hZp.1
  have HZB := Lib.hid hZb.1
  have HZR := Lib.hid hZr.1
  have HZ4 := Lib.hid hZ4.1
  have HZA := Lib.hid hZa.1
  clear hTab hT hD bD hG bG hip hib hir hi4 hia hZp hZb hZr hZ4 hZa hV hVe hS bS h hL hr hs hR2 hU2 hE bE
  go_enter Tryz.func3, Tryz.ntmps3
  go_wp2_with fail
  refine (awake_as _ (HT.out.next HW.out.1)).mono ?_
  rintro e W1 ⟨rfl, hb⟩
  replace HW := Lib.hid (HW.out.next hb)
  clear hb
  go_wp2_with (refine wpList_load_part (by rfl) 23 _ rfl w.heap.size 17 rfl HR.out HW.out.2 HV4.out (by omega) (fun i _ => rfl) Tryz.underlying23 rfl (HI4.out _ HV4.out.1) ?_)
  refine (HP.out _ (HT.out.next HW.out.1)).mono ?_
  rintro e w3 ⟨rfl, hb⟩
  replace HW := Lib.hid (HW.out.next hb)
  have HU := Lib.hid (Duo.start (Below.refl w3.heap.size w3) Z4 Zb 23 27)
  clear hb HP
  go_wp2_with (first
    | (refine wpList_store_row rfl 23 _ _ rfl w3.heap.size R rfl rfl _ _ HU.out.2.2.1 (HI4.out _ HRR.out.1) (by rw [HZ4.out, HRR.out.1]) HRR.out.2.1 ?_
       replace HU := Lib.hid (HU.out.set1 R)
       revert HU
       generalize World.setRow _ _ _ = W4
       intro HU)
    | (refine wpList_store_row rfl 27 _ _ rfl (w3.heap.size + 1) U rfl rfl _ _ HU.out.2.2.2 (HIB.out _ HUU.out.1) (by rw [HZB.out, HUU.out.1]) HUU.out.2.1 ?_
       replace HU := Lib.hid (HU.out.set2 U)
       have HV := Lib.hid (HW.out.next HU.out.1)
       clear HW
       revert HU HV
       generalize World.setRow _ _ _ = W5
       intro HU HV)
    | refine wpList_load_part (by rfl) 23 _ rfl w.heap.size 17 rfl HR.out HV.out.2 HV4.out (by omega) (fun i _ => rfl) Tryz.underlying23 rfl (HI4.out _ HV4.out.1) ?_
    | refine wpList_build_parts (by rfl) 25 [(2, _)] rfl _ rfl HBS.out ?_)
  refine (HL.out _).mono ?_
  rintro e W6 ⟨rfl, hb⟩
  replace HV := Lib.hid (HV.out.next hb)
  replace HU := Lib.hid (HU.out.next hb)
  clear hb HL
  go_wp2_with (refine wpList_load_part (by rfl) 23 _ rfl w.heap.size 17 rfl HR.out HV.out.2 HV4.out (by omega) (fun i _ => rfl) Tryz.underlying23 rfl (HI4.out _ HV4.out.1) ?_)
  refine (HQ.out _).mono ?_
  rintro e w7 ⟨rfl, hb⟩
  replace HV := Lib.hid (HV.out.next hb)
  have P1 := Lib.hid ((HU.out.next hb).2.2.1)
  have P2 := Lib.hid ((HU.out.next hb).2.2.2)
  have HX := Lib.hid (Duo.start (Below.refl w7.heap.size w7) Z4 Za 23 22)
  clear hb HQ HU
  revert P1 P2
  generalize w3.heap.size = b5
  intro P1 P2
  go_wp2_with (first
    | (refine wpList_store_row rfl 23 _ _ rfl w7.heap.size R rfl rfl _ _ HX.out.2.2.1 (HI4.out _ HRR.out.1) (by rw [HZ4.out, HRR.out.1]) HRR.out.2.1 ?_
       replace HX := Lib.hid (HX.out.set1 R)
       revert HX
       generalize World.setRow _ _ _ = W8
       intro HX)
    | (refine wpList_store_row rfl 22 _ _ rfl (w7.heap.size + 1) U rfl rfl _ _ HX.out.2.2.2 (HIA.out _ HUU.out.1) (by rw [HZA.out, HUU.out.1]) HUU.out.2.1 ?_
       replace HX := Lib.hid (HX.out.set2 U)
       replace HV := Lib.hid (HV.out.next HX.out.1)
       replace P1 := Lib.hid (P1.out.below HX.out.1 P1.out.lt)
       replace P2 := Lib.hid (P2.out.below HX.out.1 P2.out.lt)
       have P3 := Lib.hid HX.out.2.2.1
       have P4 := Lib.hid HX.out.2.2.2
       clear HX
       revert HV P1 P2 P3 P4
       generalize World.setRow _ _ _ = W9
       generalize w7.heap.size = b8
       intro HV P1 P2 P3 P4)
    | refine wpList_load_all (by rfl) 23 _ rfl b5 rfl HRR.out P1.out Tryz.underlying23 rfl HI4.out ?_
    | refine wpList_load_all (by rfl) 23 _ rfl b8 rfl HRR.out P3.out Tryz.underlying23 rfl HI4.out ?_
    | refine wpList_load_all (by rfl) 27 _ rfl (b5 + 1) rfl HUU.out P2.out Tryz.underlying27 rfl HIB.out ?_
    | refine wpList_load_all (by rfl) 22 _ rfl (b8 + 1) rfl HUU.out P4.out Tryz.underlying22 rfl HIA.out ?_
    | refine wpList_load_all (by rfl) 25 _ rfl w.heap.size rfl HR.out HV.out.2 Tryz.underlying25 rfl HIR.out ?_)
  clear P1 P2 P3 P4 e1 e2
  refine (of_as T f _ HR.out).mono ?_
  rintro e W10 ⟨rfl, hb⟩
  replace HV := Lib.hid (HV.out.next hb)
  clear hb
  go_wp2_with fail
  refine (HC.out _ (HT.out.next HV.out.1)).mono ?_
  rintro e w11 ⟨rfl, hb⟩
  replace HV := Lib.hid (HV.out.next hb)
  have HU := Lib.hid (Duo.start (Below.refl w11.heap.size w11) Zb Zp 27 35)
  clear hb HC
  go_wp2_with (first
    | (refine wpList_store_row rfl 27 _ _ rfl w11.heap.size D rfl rfl _ _ HU.out.2.2.1 (HIB.out _ HD.out.1) (by rw [HZB.out, HD.out.1]) HD.out.2.1 ?_
       replace HU := Lib.hid (HU.out.set1 D)
       revert HU
       generalize World.setRow _ _ _ = W12
       intro HU)
    | (refine wpList_store_row rfl 35 _ _ rfl (w11.heap.size + 1) E rfl rfl _ _ HU.out.2.2.2 (HIP.out _ HE.out.1) (by rw [HZP.out, HE.out.1]) HE.out.2.1 ?_
       replace HU := Lib.hid (HU.out.set2 E)
       replace HV := Lib.hid (HV.out.next HU.out.1)
       have PX := Lib.hid HU.out.2.2.1
       have PY := Lib.hid HU.out.2.2.2
       clear HU
       revert HV PX PY
       generalize World.setRow _ _ _ = W13
       generalize w11.heap.size = b10
       intro HV PX PY)
    | refine wpList_load_all (by rfl) 25 _ rfl w.heap.size rfl HR.out HV.out.2 Tryz.underlying25 rfl HIR.out ?_)
  refine (HRT.out _).mono ?_
  rintro e W14 ⟨rfl, hb⟩
  replace HV := Lib.hid (HV.out.next hb)
  replace PX := Lib.hid (PX.out.below hb PX.out.lt)
  replace PY := Lib.hid (PY.out.below hb PY.out.lt)
  clear hb HRT
  go_wp2_with fail
  go_ret
  exact ⟨rfl, HV.out.1⟩

set_option maxHeartbeats 4000000 in
theorem decPlays_right (T : Array Value) (f : Nat → Int) (B : ByteArray) (n : Nat) (w : World) (hT : IsRow 38 f T) (hn : B.size = n) (h : 10 ≤ n ∧ n ≤ 32) (hr : Rt f) (s : List UInt8) (hs : ⟨s.toArray⟩ = B) (hTab : Lv.Tab w) :
    Calls Tryz.prog 3 #[.agg T, .string B] w fun e w' => e = .returned (.bool true) ∧ Below w.heap.size w w' := by
  obtain ⟨Zp, hZp, _, hzp, hip⟩ := zero_p
  obtain ⟨Zb, hZb, _, hzb, hib⟩ := zero_b
  obtain ⟨Zr, hZr, _, hzr, hir⟩ := zero_r
  obtain ⟨Z4, hZ4, _, hz4, hi4⟩ := zero_4
  obtain ⟨Za, hZa, _, hza, hia⟩ := zero_a
  obtain ⟨D, hD, bD⟩ := built_b
  obtain ⟨G, hG, bG⟩ := built_4r
  have hV := hT.sub (show 17 + 4 ≤ 38 by omega)
  obtain ⟨V, hVe⟩ : ∃ M, T.extract 17 (17 + 4) = M := ⟨_, rfl⟩
  rw [hVe] at hV
  obtain ⟨S, hS, bS⟩ := built_lev isSt_r hV
  have hL : Sp.okL fun i => f (17 + i) := hr.2.2.1
  obtain ⟨R, hR2⟩ : ∃ R, IsRow 4 (lB (byteF s) fun i => f (17 + i)) R := ⟨_, isRow _ _⟩
  obtain ⟨U, hU2⟩ : ∃ U, IsRow 16 (wB (byteF s) (fun i => f (17 + i)) n) U := ⟨_, isRow _ _⟩
  have HP := Lib.hid (fun w' hT' => as_P (parts_yes V _ B s n w' hV hs hn h hL hT') hR2 hU2)
  have HQ := Lib.hid (fun w' => as_Q (refParts_as V _ B s n w' hV hs hn h hL) hR2 hU2)
  have HL := Lib.hid (fun w' => refRight_any S _ true w' hS (by simp [lev_right, hL]))
  have HRR := Lib.hid hR2
  have HUU := Lib.hid hU2
  have e1 := rows_eq hR2 hR2 (fun _ _ => rfl) Tryz.underlying23
  have e2 := rows_eq hU2 hU2 (fun _ _ => rfl) Tryz.underlying27
  obtain ⟨X, hX⟩ : ∃ X, IsRow 16 (soD (byteF s) f n) X := ⟨_, isRow _ _⟩
  obtain ⟨Y, hY⟩ : ∃ Y, IsRow 38 (nxD (byteF s) f n) Y := ⟨_, isRow _ _⟩
  have HC := Lib.hid (fun w' hT' => as_D (decode_yes T f B s n w' hT hs hn h hr hT') hX hY)
  have HN := Lib.hid (fun w' => as_N (refDecode_as T f B s n w' hT hs hn h hr) hX hY)
  have HRT := Lib.hid (fun w' => refRight_any T f true w' hT (by simp [hr]))
  have HXX := Lib.hid hX
  have HY := Lib.hid hY
  have e3 := rows_eq hX hX (fun _ _ => rfl) Tryz.underlying27
  have e4 := st_eq_r hY hY (fun _ _ => rfl)
  have l1 : ¬ (200 : Int) < n := by omega
  have l2 : ¬ (n : Int) < 10 := by omega
  have l3 : ¬ (32 : Int) < n := by omega
  have HW := Lib.hid (One.start w T 25)
  have HT := Lib.hid hTab
  have HR := Lib.hid hT
  have HV4 := Lib.hid (show IsRow 4 _ (T.extract 17 (17 + 4)) from hT.sub (show 17 + 4 ≤ 38 by omega))
  rw [hVe] at HV4
  have HD := Lib.hid hD
  have HBD := Lib.hid bD
  have HG := Lib.hid hG
  have HBG := Lib.hid bG
  have HBS := Lib.hid bS
  have HIP := Lib.hid hip
  have HIB := Lib.hid hib
  have HIR := Lib.hid hir
  have HI4 := Lib.hid hi4
  have HIA := Lib.hid hia
  have HZP := Lib.hid hZp.1
  have HZB := Lib.hid hZb.1
  have HZR := Lib.hid hZr.1
  have HZ4 := Lib.hid hZ4.1
  have HZA := Lib.hid hZa.1
  clear hTab hT hD bD hG bG hip hib hir hi4 hia hZp hZb hZr hZ4 hZa hV hVe hS bS h hL hr hs hR2 hU2 hX hY
  go_enter Tryz.func3, Tryz.ntmps3
  go_wp2_with fail
  refine (awake_as _ (HT.out.next HW.out.1)).mono ?_
  rintro e W1 ⟨rfl, hb⟩
  replace HW := Lib.hid (HW.out.next hb)
  clear hb
  go_wp2_with (refine wpList_load_part (by rfl) 23 _ rfl w.heap.size 17 rfl HR.out HW.out.2 HV4.out (by omega) (fun i _ => rfl) Tryz.underlying23 rfl (HI4.out _ HV4.out.1) ?_)
  refine (HP.out _ (HT.out.next HW.out.1)).mono ?_
  rintro e w3 ⟨rfl, hb⟩
  replace HW := Lib.hid (HW.out.next hb)
  have HU := Lib.hid (Duo.start (Below.refl w3.heap.size w3) Z4 Zb 23 27)
  clear hb HP
  go_wp2_with (first
    | (refine wpList_store_row rfl 23 _ _ rfl w3.heap.size R rfl rfl _ _ HU.out.2.2.1 (HI4.out _ HRR.out.1) (by rw [HZ4.out, HRR.out.1]) HRR.out.2.1 ?_
       replace HU := Lib.hid (HU.out.set1 R)
       revert HU
       generalize World.setRow _ _ _ = W4
       intro HU)
    | (refine wpList_store_row rfl 27 _ _ rfl (w3.heap.size + 1) U rfl rfl _ _ HU.out.2.2.2 (HIB.out _ HUU.out.1) (by rw [HZB.out, HUU.out.1]) HUU.out.2.1 ?_
       replace HU := Lib.hid (HU.out.set2 U)
       have HV := Lib.hid (HW.out.next HU.out.1)
       clear HW
       revert HU HV
       generalize World.setRow _ _ _ = W5
       intro HU HV)
    | refine wpList_load_part (by rfl) 23 _ rfl w.heap.size 17 rfl HR.out HV.out.2 HV4.out (by omega) (fun i _ => rfl) Tryz.underlying23 rfl (HI4.out _ HV4.out.1) ?_
    | refine wpList_build_parts (by rfl) 25 [(2, _)] rfl _ rfl HBS.out ?_)
  refine (HL.out _).mono ?_
  rintro e W6 ⟨rfl, hb⟩
  replace HV := Lib.hid (HV.out.next hb)
  replace HU := Lib.hid (HU.out.next hb)
  clear hb HL
  go_wp2_with (refine wpList_load_part (by rfl) 23 _ rfl w.heap.size 17 rfl HR.out HV.out.2 HV4.out (by omega) (fun i _ => rfl) Tryz.underlying23 rfl (HI4.out _ HV4.out.1) ?_)
  refine (HQ.out _).mono ?_
  rintro e w7 ⟨rfl, hb⟩
  replace HV := Lib.hid (HV.out.next hb)
  have P1 := Lib.hid ((HU.out.next hb).2.2.1)
  have P2 := Lib.hid ((HU.out.next hb).2.2.2)
  have HF := Lib.hid (Duo.start (Below.refl w7.heap.size w7) Z4 Za 23 22)
  clear hb HQ HU
  revert P1 P2
  generalize w3.heap.size = b5
  intro P1 P2
  go_wp2_with (first
    | (refine wpList_store_row rfl 23 _ _ rfl w7.heap.size R rfl rfl _ _ HF.out.2.2.1 (HI4.out _ HRR.out.1) (by rw [HZ4.out, HRR.out.1]) HRR.out.2.1 ?_
       replace HF := Lib.hid (HF.out.set1 R)
       revert HF
       generalize World.setRow _ _ _ = W8
       intro HF)
    | (refine wpList_store_row rfl 22 _ _ rfl (w7.heap.size + 1) U rfl rfl _ _ HF.out.2.2.2 (HIA.out _ HUU.out.1) (by rw [HZA.out, HUU.out.1]) HUU.out.2.1 ?_
       replace HF := Lib.hid (HF.out.set2 U)
       replace HV := Lib.hid (HV.out.next HF.out.1)
       replace P1 := Lib.hid (P1.out.below HF.out.1 P1.out.lt)
       replace P2 := Lib.hid (P2.out.below HF.out.1 P2.out.lt)
       have P3 := Lib.hid HF.out.2.2.1
       have P4 := Lib.hid HF.out.2.2.2
       clear HF
       revert HV P1 P2 P3 P4
       generalize World.setRow _ _ _ = W9
       generalize w7.heap.size = b8
       intro HV P1 P2 P3 P4)
    | refine wpList_load_all (by rfl) 23 _ rfl b5 rfl HRR.out P1.out Tryz.underlying23 rfl HI4.out ?_
    | refine wpList_load_all (by rfl) 23 _ rfl b8 rfl HRR.out P3.out Tryz.underlying23 rfl HI4.out ?_
    | refine wpList_load_all (by rfl) 27 _ rfl (b5 + 1) rfl HUU.out P2.out Tryz.underlying27 rfl HIB.out ?_
    | refine wpList_load_all (by rfl) 22 _ rfl (b8 + 1) rfl HUU.out P4.out Tryz.underlying22 rfl HIA.out ?_
    | refine wpList_load_all (by rfl) 25 _ rfl w.heap.size rfl HR.out HV.out.2 Tryz.underlying25 rfl HIR.out ?_)
  clear P1 P2 P3 P4 e1 e2
  refine (of_as T f _ HR.out).mono ?_
  rintro e W10 ⟨rfl, hb⟩
  replace HV := Lib.hid (HV.out.next hb)
  clear hb
  go_wp2_with fail
  refine (HC.out _ (HT.out.next HV.out.1)).mono ?_
  rintro e w11 ⟨rfl, hb⟩
  replace HV := Lib.hid (HV.out.next hb)
  have HU := Lib.hid (Duo.start (Below.refl w11.heap.size w11) Zb Zp 27 35)
  clear hb HC
  go_wp2_with (first
    | (refine wpList_store_row rfl 27 _ _ rfl w11.heap.size X rfl rfl _ _ HU.out.2.2.1 (HIB.out _ HXX.out.1) (by rw [HZB.out, HXX.out.1]) HXX.out.2.1 ?_
       replace HU := Lib.hid (HU.out.set1 X)
       revert HU
       generalize World.setRow _ _ _ = W12
       intro HU)
    | (refine wpList_store_row rfl 35 _ _ rfl (w11.heap.size + 1) Y rfl rfl _ _ HU.out.2.2.2 (HIP.out _ HY.out.1) (by rw [HZP.out, HY.out.1]) HY.out.2.1 ?_
       replace HU := Lib.hid (HU.out.set2 Y)
       replace HV := Lib.hid (HV.out.next HU.out.1)
       have PX := Lib.hid HU.out.2.2.1
       have PY := Lib.hid HU.out.2.2.2
       clear HU
       revert HV PX PY
       generalize World.setRow _ _ _ = W13
       generalize w11.heap.size = b10
       intro HV PX PY)
    | refine wpList_load_all (by rfl) 25 _ rfl w.heap.size rfl HR.out HV.out.2 Tryz.underlying25 rfl HIR.out ?_)
  refine (HRT.out _).mono ?_
  rintro e W14 ⟨rfl, hb⟩
  replace HV := Lib.hid (HV.out.next hb)
  replace PX := Lib.hid (PX.out.below hb PX.out.lt)
  replace PY := Lib.hid (PY.out.below hb PY.out.lt)
  clear hb HRT
  go_wp2_with (refine wpList_load_all (by rfl) 25 _ rfl w.heap.size rfl HR.out HV.out.2 Tryz.underlying25 rfl HIR.out ?_)
  refine (HN.out _).mono ?_
  rintro e w15 ⟨rfl, hb⟩
  have HB := Lib.hid (below_trans HV.out.1 hb HV.out.1.size)
  replace PX := Lib.hid (PX.out.below hb PX.out.lt)
  replace PY := Lib.hid (PY.out.below hb PY.out.lt)
  have HU := Lib.hid (Duo.start (Below.refl w15.heap.size w15) Za Zr 22 25)
  clear hb HN HV
  go_wp2_with (first
    | (refine wpList_store_row rfl 22 _ _ rfl w15.heap.size X rfl rfl _ _ HU.out.2.2.1 (HIA.out _ HXX.out.1) (by rw [HZA.out, HXX.out.1]) HXX.out.2.1 ?_
       replace HU := Lib.hid (HU.out.set1 X)
       revert HU
       generalize World.setRow _ _ _ = W16
       intro HU)
    | (refine wpList_store_row rfl 25 _ _ rfl (w15.heap.size + 1) Y rfl rfl _ _ HU.out.2.2.2 (HIR.out _ HY.out.1) (by rw [HZR.out, HY.out.1]) HY.out.2.1 ?_
       replace HU := Lib.hid (HU.out.set2 Y)
       replace PX := Lib.hid (PX.out.below HU.out.1 PX.out.lt)
       replace PY := Lib.hid (PY.out.below HU.out.1 PY.out.lt)
       replace HB := Lib.hid (below_trans HB.out HU.out.1 HB.out.size)
       have PM := Lib.hid HU.out.2.2.1
       have PN := Lib.hid HU.out.2.2.2
       clear HU
       revert PX PY HB PM PN
       generalize World.setRow _ _ _ = W17
       generalize w15.heap.size = b13
       intro PX PY HB PM PN))
  refine mv_start fun hS => ?_
  refine mv_yield (i := 0) (d := 106) (.int .i64 0) rfl rfl (by kernel_rfl) (by kernel_rfl) (by kernel_rfl) hS (y_run (by rfl) fun _ => by rfl) ?_
  simp only [Act.put, List.setIfInBounds_toArray, List.set_cons_zero, List.set_cons_succ]
  refine mv_yield (i := 1) (d := 107) (.bool true) rfl rfl (by kernel_rfl) (by kernel_rfl) (by kernel_rfl) hS (y_eqe (by rfl) rfl rfl rfl rfl) ?_
  simp only [Act.put, List.setIfInBounds_toArray, List.set_cons_zero, List.set_cons_succ]
  refine mv_yield (i := 2) (d := 108) (.bool true) rfl rfl (by kernel_rfl) (by kernel_rfl) (by kernel_rfl) hS (y_run (by rfl) fun _ => by rfl) ?_
  simp only [Act.put, List.setIfInBounds_toArray, List.set_cons_zero, List.set_cons_succ]
  refine mv_yield (i := 3) (d := 109) (.agg X) rfl rfl (by kernel_rfl) (by kernel_rfl) (by kernel_rfl) hS (y_load_part (l := 0) (by rfl) rfl rfl HXX.out (fun w' h => (PX.out).below h (PX.out).lt) HXX.out (by omega) (fun i _ => by rw [Nat.zero_add]) Tryz.underlying27 rfl (HIB.out _ HXX.out.1)) ?_
  simp only [Act.put, List.setIfInBounds_toArray, List.set_cons_zero, List.set_cons_succ]
  refine mv_yield (i := 4) (d := 110) (.agg X) rfl rfl (by kernel_rfl) (by kernel_rfl) (by kernel_rfl) hS (y_load_part (l := 0) (by rfl) rfl rfl HXX.out (fun w' h => (PM.out).below h (PM.out).lt) HXX.out (by omega) (fun i _ => by rw [Nat.zero_add]) Tryz.underlying22 rfl (HIA.out _ HXX.out.1)) ?_
  simp only [Act.put, List.setIfInBounds_toArray, List.set_cons_zero, List.set_cons_succ]
  refine mv_yield (i := 5) (d := 111) (.bool true) rfl rfl (by kernel_rfl) (by kernel_rfl) (by kernel_rfl) hS (y_eql (by rfl) rfl rfl rfl (by kernel_rfl) e3) ?_
  simp only [Act.put, List.setIfInBounds_toArray, List.set_cons_zero, List.set_cons_succ]
  refine mv_yield (i := 6) (d := 112) (.bool true) rfl rfl (by kernel_rfl) (by kernel_rfl) (by kernel_rfl) hS (y_run (by rfl) fun _ => by rfl) ?_
  simp only [Act.put, List.setIfInBounds_toArray, List.set_cons_zero, List.set_cons_succ]
  refine mv_yield (i := 7) (d := 113) (.bool true) rfl rfl (by kernel_rfl) (by kernel_rfl) (by kernel_rfl) hS (y_run (by rfl) fun _ => by rfl) ?_
  simp only [Act.put, List.setIfInBounds_toArray, List.set_cons_zero, List.set_cons_succ]
  refine mv_yield (i := 8) (d := 114) (.agg Y) rfl rfl (by kernel_rfl) (by kernel_rfl) (by kernel_rfl) hS (y_load_part (l := 0) (by rfl) rfl rfl HY.out (fun w' h => (PY.out).below h (PY.out).lt) HY.out (by omega) (fun i _ => by rw [Nat.zero_add]) Tryz.underlying35 rfl (HIP.out _ HY.out.1)) ?_
  simp only [Act.put, List.setIfInBounds_toArray, List.set_cons_zero, List.set_cons_succ]
  refine mv_yield (i := 10) (d := 116) (.agg Y) rfl rfl (by kernel_rfl) (by kernel_rfl) (by kernel_rfl) hS (y_load_part (l := 0) (by rfl) rfl rfl HY.out (fun w' h => (PN.out).below h (PN.out).lt) HY.out (by omega) (fun i _ => by rw [Nat.zero_add]) Tryz.underlying25 rfl (HIR.out _ HY.out.1)) ?_
  simp only [Act.put, List.setIfInBounds_toArray, List.set_cons_zero, List.set_cons_succ]
  refine mv_call (i := 9) (d := 115) (v := (.agg Y)) #[.agg Y] rfl rfl (by kernel_rfl) (by rfl) rfl hS enter_plain (by kernel_rfl) (plain_as Y _ _ HY.out) ?_
  clear hS
  rintro w' hS
  simp only [Act.put, List.setIfInBounds_toArray, List.set_cons_zero, List.set_cons_succ]
  refine mv_yield (i := 11) (d := 117) (.bool true) rfl rfl (by kernel_rfl) (by kernel_rfl) (by kernel_rfl) hS (y_eql (by rfl) rfl rfl rfl (by kernel_rfl) e4) ?_
  simp only [Act.put, List.setIfInBounds_toArray, List.set_cons_zero, List.set_cons_succ]
  refine mv_yield (i := 12) (d := 118) (.bool true) rfl rfl (by kernel_rfl) (by kernel_rfl) (by kernel_rfl) hS (y_run (by rfl) fun _ => by rfl) ?_
  simp only [Act.put, List.setIfInBounds_toArray, List.set_cons_zero, List.set_cons_succ]
  refine mv_yield (i := 13) (d := 4) (.bool true) rfl rfl (by kernel_rfl) (by kernel_rfl) (by kernel_rfl) hS (y_run (by rfl) fun _ => by rfl) ?_
  simp only [Act.put, List.setIfInBounds_toArray, List.set_cons_zero, List.set_cons_succ]
  refine mv_done (by kernel_rfl) ?_
  have HBF := Lib.hid (below_trans HB.out hS HB.out.size)
  clear hS
  go_wp2_with fail
  go_ret
  exact ⟨rfl, HBF.out⟩

theorem decPlays_walk (T : Array Value) (f : Nat → Int) (B : ByteArray) (w : World) (hT : IsRow 38 f T) (hTab : Lv.Tab w) :
    Calls Tryz.prog 3 #[.agg T, .string B] w fun e w' => e = .returned (.bool true) ∧ Below w.heap.size w w' := by
  by_cases h : 200 < B.size
  · exact decPlays_long T f B _ w hT rfl h hTab
  by_cases h1 : B.size < 10
  · exact decPlays_few T f B _ w hT rfl (by omega) h1 hTab
  by_cases h2 : 32 < B.size
  · exact decPlays_many T f B _ w hT rfl (by omega) h2 hTab
  by_cases hr : Rt f
  · exact decPlays_right T f B _ w hT rfl (by omega) hr B.data.toList rfl hTab
  by_cases hL : Sp.okL fun i => f (17 + i)
  · exact decPlays_wrong T f B _ w hT rfl (by omega) hL hr B.data.toList rfl hTab
  · exact decPlays_bad T f B _ w hT rfl (by omega) hL hTab
end Go.Proofs.YtimhemcoflpmcaaGreatDoor.De
end
