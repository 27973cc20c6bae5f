/- Texts of the walk, one behind the other. -/
import Derived.Test.YtimhemcoflpmcaaGreatDoorDecPlaysM41
import Derived.Test.YtimhemcoflpmcaaGreatDoorDecPlaysM42

section
/- Contracts of dec's Decode. -/
set_option maxRecDepth 100000
set_option linter.unusedVariables false
namespace Go.Proofs.YtimhemcoflpmcaaGreatDoor.De
open Go.RowKit Go.Proofs.YtimhemcoflpmcaaGreatDoor.Row Go.Proofs.YtimhemcoflpmcaaGreatDoor.Rg Go.Proofs.YtimhemcoflpmcaaGreatDoor.Sta

theorem th_lev {v u : Nat → Int} (hv : Sp.okL v) (hu : ∀ i, -1048576 ≤ u i ∧ u i ≤ 1048576) : Rt (thF v u 0) := by
  refine ⟨fun i hi => ?_, ?_, fun i hi => ?_, fun i hi => ?_, ?_⟩
  · unfold thF; rw [stF_mem _ _ _ _ _ hi]; omega
  · unfold thF; rw [stF_last]; omega
  · unfold thF; rw [stF_lev _ _ _ _ _ hi]; exact hv i hi
  · have := hu i
    have e : thF v u 0 (21 + i) = u i := by unfold thF; exact stF_wav _ _ _ _ _ hi
    show Md.ab (thF v u 0 (21 + i)) ≤ _
    rw [e]
    exact Md.ab_le (by omega) (by omega)
  · unfold thF; rw [stF_lost]; omega

/-- A block, a state, and how it went. -/
def RetD (w : World) (h g : Nat → Int) (z : Int) (e : Ending) (w' : World) : Prop := (∃ R Q, e = .returned (.tuple #[.agg R, .agg Q, .int .i64 z]) ∧ IsRow 16 h R ∧ IsRow 38 g Q) ∧ Below w.heap.size w w'

/-- What stands while Decode works. -/
def DcS (w : World) (T A B : Array Value) (w' : World) : Prop :=
  Below w.heap.size w w' ∧ At w' w.heap.size T 35 ∧ At w' (w.heap.size + 1) A 27 ∧ At w' (w.heap.size + 2) B 35 ∧ Lv.Tab w' ∧ 0 < w.heap.size
theorem DcS.start (w : World) (T A B : Array Value) (hT : Lv.Tab w) : DcS w T A B (((w.alloc (.cells T 35)).alloc (.cells A 27)).alloc (.cells B 35)) := by
  have a1 := At.new (w.alloc (.cells T 35)) A 27
  have a2 := At.new ((w.alloc (.cells T 35)).alloc (.cells A 27)) B 35
  simp only [World.size_alloc] at a1 a2
  have hb : Below w.heap.size w (((w.alloc (.cells T 35)).alloc (.cells A 27)).alloc (.cells B 35)) := (((Below.refl _ _).alloc (Nat.le_refl _) _).alloc (by simp) _).alloc (by simp; omega) _
  exact ⟨hb, ((At.new w T 35).alloc _).alloc _, a1.alloc _, a2, hT.next hb, hT.lt⟩
theorem DcS.below {w w1 w2 : World} {T A B : Array Value} (h : DcS w T A B w1) (hb : Below w1.heap.size w1 w2) : DcS w T A B w2 := by
  obtain ⟨h1, h2, h3, h4, h5, h6⟩ := h
  exact ⟨below_trans h1 hb h1.size, h2.below hb h2.lt, h3.below hb h3.lt, h4.below hb h4.lt, h5.next hb, h6⟩
theorem DcS.set1 {w w1 : World} {T A B : Array Value} (h : DcS w T A B w1) (C : Array Value) : DcS w T C B (w1.setRow (w.heap.size + 1) C) := by
  obtain ⟨h1, h2, h3, h4, h5, h6⟩ := h
  exact ⟨below_setRow' h1 (by omega) _, h2.setRow_other (by omega), h3.setRow, h4.setRow_other (by omega), Tab.row h5 (by omega) _, h6⟩
theorem DcS.set2 {w w1 : World} {T A B : Array Value} (h : DcS w T A B w1) (C : Array Value) : DcS w T A C (w1.setRow (w.heap.size + 2) C) := by
  obtain ⟨h1, h2, h3, h4, h5, h6⟩ := h
  exact ⟨below_setRow' h1 (by omega) _, h2.setRow_other (by omega), h3.setRow_other (by omega), h4.setRow, Tab.row h5 (by omega) _, h6⟩

theorem decode_size (T : Array Value) (f : Nat → Int) (B : ByteArray) (n : Nat) (w : World) (hR : IsRow 38 f T) (hn : B.size = n) (h : ¬ (10 ≤ n ∧ n ≤ 32)) (hm : n ≤ maxLen) (hT : Lv.Tab w) :
    Calls Tryz.prog 8 #[.agg T, .string B] w (RetD w (fun _ => 0) (fun _ => 0) 10) := by
  obtain ⟨Zp, hZp, _, hzp, hip⟩ := zero_p
  obtain ⟨Zb, hZb, _, hzb, hib⟩ := zero_b
  obtain ⟨D, hD, bD⟩ := built_b
  obtain ⟨G, hG, bG⟩ := built_0 isSt_p
  have HS := Lib.hid (DcS.start w T Zb Zp hT)
  have HD := Lib.hid hD
  have HBD := Lib.hid bD
  have HG := Lib.hid hG
  have HBG := Lib.hid bG
  have HIP := Lib.hid hip
  have HIB := Lib.hid hib
  have HZP := Lib.hid hZp.1
  have HZB := Lib.hid hZb.1
  have HN := Lib.hid h
  clear hT hD bD hG bG hip hib hZp hZb h hR
  go_enter Tryz.func8, Tryz.ntmps8
  go_wp2_with fail
  refine (isSize_no n _ HN.out).mono ?_
  rintro e w1 ⟨rfl, rfl⟩
  go_wp2_with (first
    | refine wpList_build_parts (by rfl) 35 [] rfl _ rfl HBG.out ?_
    | refine wpList_build_parts (by rfl) 27 [] rfl _ rfl HBD.out ?_
    | (refine wpList_store_row rfl 27 _ _ rfl (w.heap.size + 1) D rfl rfl _ _ HS.out.2.2.1 (HIB.out _ HD.out.1) (by rw [HZB.out, HD.out.1]) HD.out.2.1 ?_
       have HS1 := Lib.hid (HS.out.set1 D)
       clear HS
       revert HS1
       generalize World.setRow _ _ _ = W
       intro HS1)
    | (refine wpList_store_row rfl 35 _ _ rfl (w.heap.size + 2) G rfl rfl _ _ HS1.out.2.2.2.1 (HIP.out _ HG.out.1) (by rw [HZP.out, HG.out.1]) HG.out.2.1 ?_
       have HS2 := Lib.hid (HS1.out.set2 G)
       clear HS1
       revert HS2
       generalize World.setRow _ _ _ = W
       intro HS2))
  exact bodyPost_ret (v := .tuple #[.agg D, .agg G, .int .i64 10]) (results_two_int rfl _ _ (w.heap.size + 1) (w.heap.size + 2) D G _ _ rfl rfl rfl HS2.out.2.2.1 HS2.out.2.2.2.1 Tryz.underlying27 rfl (HIB.out _ HD.out.1) Tryz.underlying35 rfl (HIP.out _ HG.out.1)) rfl ⟨⟨D, G, rfl, HD.out, HG.out⟩, HS2.out.1⟩

theorem decode_no (T : Array Value) (f : Nat → Int) (B : ByteArray) (n : Nat) (w : World) (hR : IsRow 38 f T) (hn : B.size = n) (h : 10 ≤ n ∧ n ≤ 32) (hr : ¬ Rt f) (hT : Lv.Tab w) :
    Calls Tryz.prog 8 #[.agg T, .string B] w (RetD w (fun _ => 0) (fun _ => 0) 1) := by
  obtain ⟨Zp, hZp, _, hzp, hip⟩ := zero_p
  obtain ⟨Zb, hZb, _, hzb, hib⟩ := zero_b
  obtain ⟨D, hD, bD⟩ := built_b
  obtain ⟨G, hG, bG⟩ := built_0 isSt_p
  have HS := Lib.hid (DcS.start w T Zb Zp hT)
  have HD := Lib.hid hD
  have HBD := Lib.hid bD
  have HG := Lib.hid hG
  have HBG := Lib.hid bG
  have HIP := Lib.hid hip
  have HIB := Lib.hid hib
  have HZP := Lib.hid hZp.1
  have HZB := Lib.hid hZb.1
  have HN := Lib.hid h
  have HR := Lib.hid hR
  have HL := Lib.hid (fun w' => right_no T f w' hR hr)
  clear hT hD bD hG bG hip hib hZp hZb h hR hr
  go_enter Tryz.func8, Tryz.ntmps8
  go_wp2_with fail
  refine (isSize_yes n _ HN.out.1 HN.out.2).mono ?_
  rintro e w1 ⟨rfl, rfl⟩
  go_wp2_with (refine wpList_load_all (by rfl) 35 _ rfl w.heap.size rfl HR.out HS.out.2.1 Tryz.underlying35 rfl HIP.out ?_)
  refine (HL.out _).mono ?_
  rintro e w1 ⟨rfl, hb⟩
  replace HS := Lib.hid (HS.out.below hb)
  clear hb HL
  go_wp2_with (first
    | refine wpList_build_parts (by rfl) 35 [] rfl _ rfl HBG.out ?_
    | refine wpList_build_parts (by rfl) 27 [] rfl _ rfl HBD.out ?_
    | (refine wpList_store_row rfl 27 _ _ rfl (w.heap.size + 1) D rfl rfl _ _ HS.out.2.2.1 (HIB.out _ HD.out.1) (by rw [HZB.out, HD.out.1]) HD.out.2.1 ?_
       have HS1 := Lib.hid (HS.out.set1 D)
       clear HS
       revert HS1
       generalize World.setRow _ _ _ = W
       intro HS1)
    | (refine wpList_store_row rfl 35 _ _ rfl (w.heap.size + 2) G rfl rfl _ _ HS1.out.2.2.2.1 (HIP.out _ HG.out.1) (by rw [HZP.out, HG.out.1]) HG.out.2.1 ?_
       have HS2 := Lib.hid (HS1.out.set2 G)
       clear HS1
       revert HS2
       generalize World.setRow _ _ _ = W
       intro HS2))
  exact bodyPost_ret (v := .tuple #[.agg D, .agg G, .int .i64 1]) (results_two_int rfl _ _ (w.heap.size + 1) (w.heap.size + 2) D G _ _ rfl rfl rfl HS2.out.2.2.1 HS2.out.2.2.2.1 Tryz.underlying27 rfl (HIB.out _ HD.out.1) Tryz.underlying35 rfl (HIP.out _ HG.out.1)) rfl ⟨⟨D, G, rfl, HD.out, HG.out⟩, HS2.out.1⟩

/-- The sound of a packet, and the state then. -/
noncomputable def soD (F : Nat → Nat) (f : Nat → Int) (n : Nat) : Nat → Int := soF f (wB F (fun i => f (17 + i)) n)
noncomputable def nxD (F : Nat → Nat) (f : Nat → Int) (n : Nat) : Nat → Int := nxF f (lB F fun i => f (17 + i)) (wB F (fun i => f (17 + i)) n) 0

set_option maxHeartbeats 2000000 in
theorem decode_yes (T : Array Value) (f : Nat → Int) (B : ByteArray) (s : List UInt8) (n : Nat) (w : World) (hR : IsRow 38 f T) (hs : ⟨s.toArray⟩ = B) (hn : B.size = n) (h : 10 ≤ n ∧ n ≤ 32) (hr : Rt f) (hT : Lv.Tab w) :
    Calls Tryz.prog 8 #[.agg T, .string B] w (RetD w (soD (byteF s) f n) (nxD (byteF s) f n) 0) := by
  obtain ⟨Zp, hZp, _, hzp, hip⟩ := zero_p
  obtain ⟨Zb, hZb, _, hzb, hib⟩ := zero_b
  obtain ⟨Z4, hZ4, _, hz4, hi4⟩ := zero_4
  have HS := Lib.hid (DcS.start w T Zb Zp hT)
  have HIP := Lib.hid hip
  have HIB := Lib.hid hib
  have HI4 := Lib.hid hi4
  have HZP := Lib.hid hZp.1
  have HZB := Lib.hid hZb.1
  have HZ4 := Lib.hid hZ4.1
  have HN := Lib.hid h
  have HR := Lib.hid hR
  have HRT := Lib.hid hr
  have HL := Lib.hid (fun w' => right_yes T f w' hR hr)
  have HV := Lib.hid (hR.sub (show 17 + 4 ≤ 38 by omega))
  obtain ⟨V, hV⟩ : ∃ M, T.extract 17 (17 + 4) = M := ⟨_, rfl⟩
  rw [hV] at HV
  have HPA := Lib.hid (fun w' (hT : Lv.Tab w') => parts_yes V (fun i => f (17 + i)) B s n w' HV.out hs hn h hr.2.2.1 hT)
  have HTH := Lib.hid (th_lev (lB_ok (byteF s) fun i => f (17 + i)) (wB_le (byteF s) (fun i => f (17 + i)) n))
  clear hT hip hib hi4 hZp hZb hZ4 h hR hr hV hs
  go_enter Tryz.func8, Tryz.ntmps8
  go_wp2_with fail
  refine (isSize_yes n _ HN.out.1 HN.out.2).mono ?_
  rintro e w1 ⟨rfl, rfl⟩
  go_wp2_with (refine wpList_load_all (by rfl) 35 _ rfl w.heap.size rfl HR.out HS.out.2.1 Tryz.underlying35 rfl HIP.out ?_)
  refine (HL.out _).mono ?_
  rintro e w1 ⟨rfl, hb⟩
  replace HS := Lib.hid (HS.out.below hb)
  clear hb HL
  go_wp2_with (refine wpList_load_part (by rfl) 23 _ rfl w.heap.size 17 rfl HR.out HS.out.2.1 HV.out (by omega) (fun i _ => rfl) Tryz.underlying23 rfl (HI4.out _ HV.out.1) ?_)
  refine (HPA.out _ HS.out.2.2.2.2.1).mono ?_
  rintro e w2 ⟨⟨R, U, rfl, hR2, hU2⟩, hb⟩
  have HR2 := Lib.hid hR2
  have HU2 := Lib.hid hU2
  replace HS := Lib.hid (HS.out.below hb)
  have HNX := Lib.hid (fun w' => next_yes T R U f _ _ 0 HR.out hR2 hU2 HRT.out HTH.out w')
  clear hR2 hU2 hb HPA
  have HU := Lib.hid (Duo.start (Below.refl w2.heap.size w2) Z4 Zb 23 27)
  go_wp2_with (first
    | (refine wpList_store_row rfl 23 _ _ rfl w2.heap.size R rfl rfl _ _ HU.out.2.2.1 (HI4.out _ HR2.out.1) (by rw [HZ4.out, HR2.out.1]) HR2.out.2.1 ?_
       replace HU := Lib.hid (HU.out.set1 R)
       revert HU
       generalize World.setRow _ _ _ = W4
       intro HU)
    | (refine wpList_store_row rfl 27 _ _ rfl (w2.heap.size + 1) U rfl rfl _ _ HU.out.2.2.2 (HIB.out _ HU2.out.1) (by rw [HZB.out, HU2.out.1]) HU2.out.2.1 ?_
       replace HU := Lib.hid (HU.out.set2 U)
       have HS5 := Lib.hid (HS.out.below HU.out.1)
       clear HS
       revert HU HS5
       generalize World.setRow _ _ _ = W5
       intro HU HS5)
    | refine wpList_load_all (by rfl) 35 _ rfl w.heap.size rfl HR.out HS5.out.2.1 Tryz.underlying35 rfl HIP.out ?_
    | refine wpList_load_all (by rfl) 23 _ rfl w2.heap.size rfl HR2.out HU.out.2.2.1 Tryz.underlying23 rfl HI4.out ?_
    | refine wpList_load_all (by rfl) 27 _ rfl (w2.heap.size + 1) rfl HU2.out HU.out.2.2.2 Tryz.underlying27 rfl HIB.out ?_)
  refine (HNX.out _).mono ?_
  rintro e w6 ⟨⟨X, Y, rfl, hX, hY⟩, hb⟩
  have HX := Lib.hid hX
  have HY := Lib.hid hY
  have HS6 := Lib.hid (HS5.out.below hb)
  clear hX hY hb HU HS5 HNX HR2 HU2
  have HV6 := Lib.hid (Duo.start (Below.refl w6.heap.size w6) Zb Zp 27 35)
  go_wp2_with (first
    | (refine wpList_store_row rfl 27 _ _ rfl w6.heap.size X rfl rfl _ _ HV6.out.2.2.1 (HIB.out _ HX.out.1) (by rw [HZB.out, HX.out.1]) HX.out.2.1 ?_
       replace HV6 := Lib.hid (HV6.out.set1 X)
       revert HV6
       generalize World.setRow _ _ _ = W4
       intro HV6)
    | (refine wpList_store_row rfl 35 _ _ rfl (w6.heap.size + 1) Y rfl rfl _ _ HV6.out.2.2.2 (HIP.out _ HY.out.1) (by rw [HZP.out, HY.out.1]) HY.out.2.1 ?_
       replace HV6 := Lib.hid (HV6.out.set2 Y)
       have HS7 := Lib.hid (HS6.out.below HV6.out.1)
       have HLT := Lib.hid (HS6.out.2.2.2.1.lt)
       clear HS6
       revert HV6 HS7
       generalize World.setRow _ _ _ = W5
       intro HV6 HS7))
  have hlt := HLT.out
  obtain ⟨g, hg⟩ : ∃ g, w6.heap.size = g := ⟨_, rfl⟩
  have A1 := Lib.hid HV6.out.2.2.1
  have A2 := Lib.hid HV6.out.2.2.2
  rw [hg] at A1 A2 hlt ⊢
  clear hg HV6 HLT w6
  have HIX := Lib.hid (HIB.out X HX.out.1)
  have HIY := Lib.hid (HIP.out Y HY.out.1)
  refine mv_startS (fun w' => At w' g X 27 ∧ At w' (g + 1) Y 35) ⟨A1.out, A2.out⟩ fun hS => ?_
  refine mv_yield (i := 0) (d := 38) (.agg X) rfl rfl (by kernel_rfl) (by kernel_rfl) (by kernel_rfl) hS (y_load_part (l := 0) (by rfl) rfl rfl HX.out (fun _ h => h.1) HX.out (by omega) (fun i _ => by rw [Nat.zero_add]) Tryz.underlying27 rfl HIX.out) ?_
  simp only [Act.put, List.setIfInBounds_toArray, List.set_cons_zero, List.set_cons_succ]
  refine mv_yield (i := 1) (d := 39) (.agg Y) rfl rfl (by kernel_rfl) (by kernel_rfl) (by kernel_rfl) hS (y_load_part (l := 0) (by rfl) rfl rfl HY.out (fun _ h => h.2) HY.out (by omega) (fun i _ => by rw [Nat.zero_add]) Tryz.underlying35 rfl HIY.out) ?_
  simp only [Act.put, List.setIfInBounds_toArray, List.set_cons_zero, List.set_cons_succ]
  have HS8 := Lib.hid (show DcS w T Zb Zp W5.drew from ⟨HS7.out.1.drew, HS7.out.2⟩)
  clear HS7
  refine mv_ready [2] (by kernel_rfl) (by simp) (ar_store (i := 2) (w.heap.size + 1) X Zb rfl rfl (by rfl) rfl rfl rfl HS8.out.2.2.1 (by rw [HZB.out, HX.out.1]) HX.out.2.1 HIX.out ⟨hS.1.setRow_other (by omega), hS.2.setRow_other (by omega)⟩ (fun hS7 => ?_) AllReadyH.nil)
  have HS9 := Lib.hid (HS8.out.set1 X)
  clear HS8 hS
  refine mv_ready [3] (by kernel_rfl) (by simp) (ar_store (i := 3) (w.heap.size + 2) Y Zp rfl rfl (by rfl) rfl rfl rfl HS9.out.2.2.2.1 (by rw [HZP.out, HY.out.1]) HY.out.2.1 HIY.out ⟨hS7.1.setRow_other (by omega), hS7.2.setRow_other (by omega)⟩ (fun hS8 => ?_) AllReadyH.nil)
  have HS10 := Lib.hid (HS9.out.set2 Y)
  clear HS9 hS7
  refine mv_yield (i := 4) (d := 6) (.int .i64 0) rfl rfl (by kernel_rfl) (by kernel_rfl) (by kernel_rfl) hS8 (y_run (by rfl) fun _ => by rfl) ?_
  simp only [Act.put, List.setIfInBounds_toArray, List.set_cons_zero, List.set_cons_succ]
  refine mv_done (by kernel_rfl) ?_
  clear hS8
  go_wp2
  exact bodyPost_ret (v := .tuple #[.agg X, .agg Y, .int .i64 0]) (results_two_int rfl _ _ (w.heap.size + 1) (w.heap.size + 2) X Y _ _ rfl rfl rfl HS10.out.2.2.1 HS10.out.2.2.2.1 Tryz.underlying27 rfl HIX.out Tryz.underlying35 rfl HIY.out) rfl ⟨⟨X, Y, rfl, HX.out, HY.out⟩, HS10.out.1⟩
end Go.Proofs.YtimhemcoflpmcaaGreatDoor.De
end
