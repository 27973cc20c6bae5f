/- Contracts: state.Next of right states. -/
import Derived.Test.YtfpmajlgbipbmaaStN
import Derived.Deep.DeepCutAuto
set_option maxRecDepth 100000
set_option linter.unusedVariables false
namespace Go.Proofs.Ytfpmajlgbipbmaa.Sta
open Go.RowKit Go.Proofs.Ytfpmajlgbipbmaa.Row Go.Proofs.Ytfpmajlgbipbmaa.Md Go.Proofs.Ytfpmajlgbipbmaa.Tl

/-- What stands while the results are laid. -/
def Nz (w : World) (T V U P : Array Value) (b : Nat) (R : Array Value) (w' : World) : Prop := ∃ A B : Array Value, A.size = 16 ∧ B.size = 38 ∧ Nx w T V U A B P w' ∧ At w' b R 29 ∧ w.heap.size + 1 + 1 + 1 + 1 + 1 + 1 ≤ b
theorem Nz.atR {w w' : World} {T V U P R : Array Value} {b : Nat} (h : Nz w T V U P b R w') : At w' b R 29 := by
  obtain ⟨_, _, _, _, _, h, _⟩ := h; exact h
theorem Nz.atP {w w' : World} {T V U P R : Array Value} {b : Nat} (h : Nz w T V U P b R w') : At w' (w.heap.size + 1 + 1 + 1 + 1 + 1) P 31 := by
  obtain ⟨_, _, _, _, h, _, _⟩ := h; exact h.2.2.2.2.2.2.2
theorem Nz.next {w w1 w2 : World} {T V U P R : Array Value} {b : Nat} (h : Nz w T V U P b R w1) (hb : Below w1.heap.size w1 w2) : Nz w T V U P b R w2 := by
  obtain ⟨A, B, h1, h2, h3, h4, h5⟩ := h
  exact ⟨A, B, h1, h2, h3.next hb, h4.below hb h4.lt, h5⟩

set_option maxHeartbeats 2000000 in
theorem next_yes (T V U : Array Value) (f v u : Nat → Int) (z : Int) (hT : IsRow 38 f T) (hV : IsRow 4 v V) (hU : IsRow 16 u U) (hr : Rt f) (hr2 : Rt (thF v u z)) (w : World) :
    Calls Try.prog 17 #[.agg T, .agg V, .agg U, .int .i64 z] w (RetNx w (soF f u) (nxF f v u z)) := by
  obtain ⟨Zp, hZp, _, hzp, hip⟩ := zero_p
  obtain ⟨Zb, hZb, _, hzb, hib⟩ := zero_b
  obtain ⟨_, _, _, _, hi4⟩ := zero_4
  obtain ⟨P, hP, bP⟩ := built_3 isSt_p hV hU z
  obtain ⟨F, hF⟩ : ∃ F, rowL 16 (bS u) 16 = F := ⟨_, rfl⟩
  obtain ⟨L, hL⟩ : ∃ F, rowL 16 (fun i => bS u (16 + i)) 16 = F := ⟨_, rfl⟩
  have hF' : IsRow 16 (bS u) F := by rw [← hF]; exact isRow _ _
  have hL' : IsRow 16 (fun i => bS u (16 + i)) L := by rw [← hL]; exact isRow _ _
  have hCB := fun w => back_yes U u hU (th_le hr2) w
  rw [hF, hL] at hCB
  obtain ⟨O, hO⟩ : ∃ O, rowL 16 (ovS f (bS u)) 16 = O := ⟨_, rfl⟩
  obtain ⟨M, hM⟩ : ∃ M, T.extract 0 (0 + 16) = M := ⟨_, rfl⟩
  have hM' : IsRow 16 f M := by
    rw [← hM]
    exact (hT.sub (show 0 + 16 ≤ 38 by omega)).ext fun i _ => by rw [Nat.zero_add]
  have hCO := fun w => over_any M F f (bS u) hM' hF' w
  rw [hO] at hCO
  have hO' : IsRow 16 (ovS f (bS u)) O := by rw [← hO]; exact isRow _ _
  obtain ⟨R, hR⟩ : ∃ O, rowL 16 (lyF f u) 16 = O := ⟨_, rfl⟩
  have hR' : IsRow 16 (lyF f u) R := by rw [← hR]; exact isRow _ _
  have hCL := fun w => lay_any (f 16) O (ovS f (bS u)) w hO'
  change ∀ w, Calls _ _ _ w fun e w' => e = .returned (.tuple #[.agg (rowL 16 (lyF f u) 16), .int .i64 (lyF f u 15)]) ∧ _ at hCL
  obtain ⟨q, hq⟩ : ∃ q, lyF f u 15 = q := ⟨_, rfl⟩
  rw [hR, hq] at hCL
  obtain ⟨x16, hx16⟩ : ∃ q, f 16 = q := ⟨_, rfl⟩
  rw [hx16] at hCL
  obtain ⟨Q, hQ⟩ : ∃ O, rowL 16 (soF f u) 16 = O := ⟨_, rfl⟩
  have hQ' : IsRow 16 (soF f u) Q := by rw [← hQ]; exact isRow _ _
  have hCS := fun w => sound_any R (lyF f u) w hR'
  change ∀ w, Calls _ _ _ w fun e w' => e = .returned (.agg (rowL 16 (soF f u) 16)) ∧ _ at hCS
  rw [hQ] at hCS
  have HCB := Lib.hid hCB
  have HCO := Lib.hid hCO
  have HCL := Lib.hid hCL
  have HCS := Lib.hid hCS
  have HF := Lib.hid hF'
  have HL := Lib.hid hL'
  have HM := Lib.hid hM'
  have HO := Lib.hid hO'
  have HQ := Lib.hid hQ'
  have HR := Lib.hid hR'
  have Hq := Lib.hid hq
  have H16 := Lib.hid hx16
  have HIP := Lib.hid hip
  have HIB := Lib.hid hib
  have HI4 := Lib.hid hi4
  have HT := Lib.hid hT
  have HV := Lib.hid hV
  have HU := Lib.hid hU
  have HP := Lib.hid hP
  have HBP := Lib.hid bP
  have HZP := Lib.hid hZp
  have HZB := Lib.hid hZb
  have HZBs := Lib.hid hZb.1
  have HZPs := Lib.hid hZp.1
  have HN := Lib.hid (Nx.start w T V U Zb Zp Zp)
  have HFV := Lib.hid (Nx.five w T V U Zb Zp)
  have HR1 := Lib.hid hr
  have HR2 := Lib.hid hr2
  have hMT := Lib.hid (fun i (hi : i < 16) => show f (0 + i) = f i by rw [Nat.zero_add])
  clear hT hV hU hip hib hi4 hP bP hZp hZb hr hr2 hF hL hF' hL' hCB hO hM hM' hCO hO' hR hR' hCL hq hx16 hQ hQ' hCS
  go_enter Try.func17, Try.ntmps17
  go_wp2_with (first
    | refine wpList_load_all (by rfl) 23 _ rfl (w.heap.size + 1) rfl HV.out HFV.out.1 Try.underlying23 rfl HI4.out ?_
    | refine wpList_load_all (by rfl) 29 _ rfl (w.heap.size + 1 + 1) rfl HU.out HFV.out.2 Try.underlying29 rfl HIB.out ?_
    | refine wpList_build_parts (by rfl) 31 [(2, _), (3, _), (4, _)] rfl _ rfl HBP.out ?_
    | (refine wpList_store_row rfl 31 _ _ rfl (w.heap.size + 1 + 1 + 1 + 1 + 1) P rfl rfl _ _ HN.out.2.2.2.2.2.2.2 (HIP.out _ HP.out.1) (by rw [HZP.out.1, HP.out.1]) HP.out.2.1 ?_
       have HW := Lib.hid (HN.out.setR P)
       clear HN HFV HBP
       revert HW
       generalize World.setRow _ _ _ = W
       intro HW)
    | refine wpList_load_all (by rfl) 31 _ rfl w.heap.size rfl HT.out HW.out.2.2.1 Try.underlying31 rfl HIP.out ?_)
  refine (right_yes T f W HT.out HR1.out).mono ?_
  rintro e W1 ⟨rfl, hb⟩
  replace HW := Lib.hid (HW.out.next hb)
  clear hb HR1 W
  go_wp2_with (refine wpList_load_all (by rfl) 31 _ rfl (w.heap.size + 1 + 1 + 1 + 1 + 1) rfl HP.out HW.out.2.2.2.2.2.2.2 Try.underlying31 rfl HIP.out ?_)
  refine (right_yes P _ W1 HP.out HR2.out).mono ?_
  rintro e W ⟨rfl, hb⟩
  replace HW := Lib.hid (HW.out.next hb)
  clear hb HR2 W1
  go_wp2_with (refine wpList_load_all (by rfl) 29 _ rfl (w.heap.size + 1 + 1) rfl HU.out HW.out.2.2.2.2.1 Try.underlying29 rfl HIB.out ?_)
  refine (HCB.out W).mono ?_
  rintro e W1 ⟨rfl, hb⟩
  replace HW := Lib.hid (HW.out.next hb)
  have HY := Lib.hid (Ny.start HW.out Zb)
  clear hb HCB W
  go_wp2_with (first
    | (refine wpList_store_row rfl 29 _ _ rfl W1.heap.size F rfl rfl _ _ HY.out.2.2.1 (HIB.out _ HF.out.1) (by rw [HZB.out.1, HF.out.1]) HF.out.2.1 ?_
       replace HY := Lib.hid (HY.out.setF F)
       revert HY
       generalize World.setRow _ _ _ = W
       intro HY)
    | (refine wpList_store_row rfl 29 _ _ rfl (W1.heap.size + 1) L rfl rfl _ _ HY.out.2.2.2 (HIB.out _ HL.out.1) (by rw [HZB.out.1, HL.out.1]) HL.out.2.1 ?_
       replace HY := Lib.hid (HY.out.setL L)
       revert HY
       generalize World.setRow _ _ _ = W'
       intro HY)
    | refine wpList_load_all (by rfl) 29 _ rfl (W1.heap.size + 1) rfl HL.out HY.out.2.2.2 Try.underlying29 rfl HIB.out ?_)
  clear HW HZB
  revert HY
  generalize W1.heap.size = c
  intro HY
  clear W1 W
  have HPP := Lib.hid (show IsRow 38 (mmF u (thF v u z) 0) P from HP.out.ext fun j _ => (mm_0 u (thF v u z) j).symm)
  clear HP
  go_loopw [37] (fun i w' => ∃ (k : Nat) (P : Array Value), k ≤ 16 ∧ i = .int .i64 k ∧ Hid (Ny w T V U Zb Zp P c F L w') ∧ Hid (IsRow 38 (mmF u (thF v u z) k) P)) (fun i _ => 16 - (intOf i).toNat)
  case atStart => exact ⟨0, P, by omega, rfl, HY, HPP⟩
  case round =>
    obtain ⟨k, P', hk, rfl, HY', HP'⟩ := hrel
    clear HY HPP
    by_cases hlt : k < 16
    · have k1 : (k : Int) < 16 := by omega
      obtain ⟨x, hx⟩ : ∃ x, bS u (16 + k) = x := ⟨_, rfl⟩
      have hcell : L[k]? = some (.int .i64 (bS u (16 + k))) := HL.out.2.2 k hlt
      rw [hx] at hcell
      have hidx : ∀ w' : World, (Instr.index 29 (.agg L) (.int .i64 (k : Int))).run Try.prog w' = .ok (.int .i64 x) w' := fun w' => run_index Try.underlying29 hlt hcell w'
      obtain ⟨p, hp⟩ : ∃ p, ct x = p := ⟨_, rfl⟩
      have c2 := HP'.out.cell HY'.out.1.2.2.2.2.2.2.2 k (by omega)
      have f2 := HY'.out.1.2.2.2.2.2.2.2.frozen k
      have HY2 := Lib.hid (HY'.out.setP k (.int .i64 p))
      have HP2 := Lib.hid (mm_set HP'.out (show k < 38 by omega) (show ct (bS u (16 + k)) = p by rw [hx]; exact hp))
      have HPp := Lib.hid hp
      clear hx hp hcell
      go_wp2_with fail
      refine (cut_as x p _ HPp.out).mono ?_
      rintro e w1 ⟨rfl, rfl⟩
      go_wp2_with fail
      go_roundw
      case rel => exact ⟨k + 1, _, by omega, by go_num, HY2, HP2⟩
      case measure => simp [intOf]; omega
    · have e16 : k = 16 := by omega
      have hn16 : ¬ (k : Int) < 16 := by omega
      rw [e16] at HP'
      clear e16 hk hlt HL
      go_upto_region 10 with fail
      clear hn16
      go_cut [15, 16] (fun x y wx => ∃ b : Nat, x = .pointer (some ⟨b, 0, none⟩) ∧ y = .int .i64 q ∧ Hid (Ny w T V U Zb Zp P' c F L wx) ∧ c + 1 + 1 ≤ b ∧ Hid (At wx b R 29))
      case first =>
        have hge : c + 1 + 1 ≤ wr.heap.size := HY'.out.2.2.2.lt
        refine mv_startS (Ny w T V U Zb Zp P' c F L) HY'.out.drew fun hS => ?_
        refine mv_yield (i := 0) (d := 48) (.pointer (some ⟨w.heap.size, 16, none⟩)) rfl rfl (by kernel_rfl) (by kernel_rfl) (by kernel_rfl) hS (y_field (by rfl) rfl rfl fld_p1) ?_
        simp only [Act.put, List.setIfInBounds_toArray, List.set_cons_zero, List.set_cons_succ]
        refine mv_yield (i := 1) (d := 49) (.int .i64 x16) rfl rfl (by kernel_rfl) (by kernel_rfl) (by kernel_rfl) hS (y_cellS (by rfl) rfl rfl (fun w' h => by have := HT.out.cell h.1.2.2.1 16 (by omega); rw [H16.out] at this; exact this)) ?_
        simp only [Act.put, List.setIfInBounds_toArray, List.set_cons_zero, List.set_cons_succ]
        refine mv_yield (i := 2) (d := 50) (.pointer (some ⟨w.heap.size, 0, none⟩)) rfl rfl (by kernel_rfl) (by kernel_rfl) (by kernel_rfl) hS (y_field (by rfl) rfl rfl fld_p0) ?_
        simp only [Act.put, List.setIfInBounds_toArray, List.set_cons_zero, List.set_cons_succ]
        refine mv_yield (i := 3) (d := 51) (.agg M) rfl rfl (by kernel_rfl) (by kernel_rfl) (by kernel_rfl) hS (y_load_part (l := 0) (by rfl) rfl rfl HT.out (fun w' h => h.1.2.2.1) HM.out (by omega) hMT.out Try.underlying29 rfl (HIB.out _ HM.out.1)) ?_
        simp only [Act.put, List.setIfInBounds_toArray, List.set_cons_zero, List.set_cons_succ]
        refine mv_yield (i := 4) (d := 52) (.agg F) rfl rfl (by kernel_rfl) (by kernel_rfl) (by kernel_rfl) hS (y_load_part (l := 0) (by rfl) rfl rfl HF.out (fun w' h => h.2.2.1) HF.out (by omega) (fun i _ => by rw [Nat.zero_add]) Try.underlying29 rfl (HIB.out _ HF.out.1)) ?_
        simp only [Act.put, List.setIfInBounds_toArray, List.set_cons_zero, List.set_cons_succ]
        refine mv_ready [5, 10] (by kernel_rfl) (by simp) (ar_callP (i := 5) (d := 53) #[.agg M, .agg F] rfl rfl (by rfl) rfl enter_over (by kernel_rfl) (HCO.out _) (fun w' h => hS.next h) ?_ (ar_alloc (i := 10) (d := 15) rfl rfl (by rfl) rfl hzb (hS.alloc _) ?_ AllReadyH.nil))
        · rintro w1 h1 hS1
          have hge1 : c + 1 + 1 ≤ w1.heap.size := hS1.2.2.2.lt
          clear hS
          simp only [Act.put, List.setIfInBounds_toArray, List.set_cons_zero, List.set_cons_succ]
          refine mv_ready [6, 10] (by kernel_rfl) (by simp) (ar_callP (i := 6) (d := 54) #[.int .i64 x16, .agg O] rfl rfl (by rfl) rfl enter_lay (by kernel_rfl) (HCL.out _) (fun w' h => hS1.next h) ?_ (ar_alloc (i := 10) (d := 15) rfl rfl (by rfl) rfl hzb (hS1.alloc _) ?_ AllReadyH.nil))
          · rintro w2 h2 hS2
            have hge2 : c + 1 + 1 ≤ w2.heap.size := hS2.2.2.2.lt
            clear hS1
            simp only [Act.put, List.setIfInBounds_toArray, List.set_cons_zero, List.set_cons_succ]
            have hS := hS2
            refine mv_yield (i := 7) (d := 47) (.tuple #[.agg R, .int .i64 q]) rfl rfl (by kernel_rfl) (by kernel_rfl) (by kernel_rfl) hS (y_run (by rfl) fun _ => by rfl) ?_
            simp only [Act.put, List.setIfInBounds_toArray, List.set_cons_zero, List.set_cons_succ]
            refine mv_yield (i := 8) (d := 55) (.agg R) rfl rfl (by kernel_rfl) (by kernel_rfl) (by kernel_rfl) hS (y_run (by rfl) fun _ => by rfl) ?_
            simp only [Act.put, List.setIfInBounds_toArray, List.set_cons_zero, List.set_cons_succ]
            refine mv_yield (i := 9) (d := 56) (.int .i64 q) rfl rfl (by kernel_rfl) (by kernel_rfl) (by kernel_rfl) hS (y_run (by rfl) fun _ => by rfl) ?_
            simp only [Act.put, List.setIfInBounds_toArray, List.set_cons_zero, List.set_cons_succ]
            refine mv_ready [10] (by kernel_rfl) (by simp) (ar_alloc (i := 10) (d := 15) rfl rfl (by rfl) rfl hzb (hS.alloc _) (fun hS3 => ?_) AllReadyH.nil)
            simp only [Act.put, List.setIfInBounds_toArray, List.set_cons_zero, List.set_cons_succ]
            replace hS := hS3
            have a1 := At.new w2 Zb 29
            refine mv_ready [11] (by kernel_rfl) (by simp) (ar_store (i := 11) _ R Zb rfl rfl (by rfl) rfl rfl rfl a1 (by rw [HZBs.out, HR.out.1]) HR.out.2.1 (HIB.out _ HR.out.1) (hS.other hge2 _) (fun hS' => ?_) AllReadyH.nil)
            clear hS
            have hS := hS'
            refine mv_yield (i := 12) (d := 16) (.int .i64 q) rfl rfl (by kernel_rfl) (by kernel_rfl) (by kernel_rfl) hS (y_run (by rfl) fun _ => by rfl) ?_
            simp only [Act.put, List.setIfInBounds_toArray, List.set_cons_zero, List.set_cons_succ]
            refine mv_done (by kernel_rfl) ?_
            go_wp2_with fail
            go_meet
            exact ⟨_, rfl, rfl, Lib.hid hS', hge2, Lib.hid (a1).setRow⟩
          · intro hS2
            simp only [Act.put, List.setIfInBounds_toArray, List.set_cons_zero, List.set_cons_succ]
            have a1 := At.new w1 Zb 29
            have l1 : w1.heap.size < (w1.alloc (.cells Zb 29)).heap.size := a1.lt
            refine mv_ready [6] (by kernel_rfl) (by simp) (ar_callP (i := 6) (d := 54) #[.int .i64 x16, .agg O] rfl rfl (by rfl) rfl enter_lay (by kernel_rfl) (HCL.out _) (fun w' h => hS2.next h) ?_ AllReadyH.nil)
            rintro w3 h3 hS
            simp only [Act.put, List.setIfInBounds_toArray, List.set_cons_zero, List.set_cons_succ]
            have a2 := a1.below h3 l1
            refine mv_yield (i := 7) (d := 47) (.tuple #[.agg R, .int .i64 q]) rfl rfl (by kernel_rfl) (by kernel_rfl) (by kernel_rfl) hS (y_run (by rfl) fun _ => by rfl) ?_
            simp only [Act.put, List.setIfInBounds_toArray, List.set_cons_zero, List.set_cons_succ]
            refine mv_yield (i := 8) (d := 55) (.agg R) rfl rfl (by kernel_rfl) (by kernel_rfl) (by kernel_rfl) hS (y_run (by rfl) fun _ => by rfl) ?_
            simp only [Act.put, List.setIfInBounds_toArray, List.set_cons_zero, List.set_cons_succ]
            refine mv_yield (i := 9) (d := 56) (.int .i64 q) rfl rfl (by kernel_rfl) (by kernel_rfl) (by kernel_rfl) hS (y_run (by rfl) fun _ => by rfl) ?_
            simp only [Act.put, List.setIfInBounds_toArray, List.set_cons_zero, List.set_cons_succ]
            refine mv_ready [11] (by kernel_rfl) (by simp) (ar_store (i := 11) _ R Zb rfl rfl (by rfl) rfl rfl rfl a2 (by rw [HZBs.out, HR.out.1]) HR.out.2.1 (HIB.out _ HR.out.1) (hS.other hge1 _) (fun hS' => ?_) AllReadyH.nil)
            clear hS
            have hS := hS'
            refine mv_yield (i := 12) (d := 16) (.int .i64 q) rfl rfl (by kernel_rfl) (by kernel_rfl) (by kernel_rfl) hS (y_run (by rfl) fun _ => by rfl) ?_
            simp only [Act.put, List.setIfInBounds_toArray, List.set_cons_zero, List.set_cons_succ]
            refine mv_done (by kernel_rfl) ?_
            go_wp2_with fail
            go_meet
            exact ⟨_, rfl, rfl, Lib.hid hS', hge1, Lib.hid (a2).setRow⟩
        · intro hS1
          simp only [Act.put, List.setIfInBounds_toArray, List.set_cons_zero, List.set_cons_succ]
          have a1 := At.new wr.drew Zb 29
          have l1 : wr.drew.heap.size < (wr.drew.alloc (.cells Zb 29)).heap.size := a1.lt
          refine mv_ready [5] (by kernel_rfl) (by simp) (ar_callP (i := 5) (d := 53) #[.agg M, .agg F] rfl rfl (by rfl) rfl enter_over (by kernel_rfl) (HCO.out _) (fun w' h => hS1.next h) ?_ AllReadyH.nil)
          rintro w2 h2 hS2
          simp only [Act.put, List.setIfInBounds_toArray, List.set_cons_zero, List.set_cons_succ]
          have a2 := a1.below h2 l1
          refine mv_ready [6] (by kernel_rfl) (by simp) (ar_callP (i := 6) (d := 54) #[.int .i64 x16, .agg O] rfl rfl (by rfl) rfl enter_lay (by kernel_rfl) (HCL.out _) (fun w' h => hS2.next h) ?_ AllReadyH.nil)
          rintro w3 h3 hS3
          simp only [Act.put, List.setIfInBounds_toArray, List.set_cons_zero, List.set_cons_succ]
          have a3 := Sta.At.two a2 h3
          clear hS
          have hS := hS3
          refine mv_yield (i := 7) (d := 47) (.tuple #[.agg R, .int .i64 q]) rfl rfl (by kernel_rfl) (by kernel_rfl) (by kernel_rfl) hS (y_run (by rfl) fun _ => by rfl) ?_
          simp only [Act.put, List.setIfInBounds_toArray, List.set_cons_zero, List.set_cons_succ]
          refine mv_yield (i := 8) (d := 55) (.agg R) rfl rfl (by kernel_rfl) (by kernel_rfl) (by kernel_rfl) hS (y_run (by rfl) fun _ => by rfl) ?_
          simp only [Act.put, List.setIfInBounds_toArray, List.set_cons_zero, List.set_cons_succ]
          refine mv_yield (i := 9) (d := 56) (.int .i64 q) rfl rfl (by kernel_rfl) (by kernel_rfl) (by kernel_rfl) hS (y_run (by rfl) fun _ => by rfl) ?_
          simp only [Act.put, List.setIfInBounds_toArray, List.set_cons_zero, List.set_cons_succ]
          refine mv_ready [11] (by kernel_rfl) (by simp) (ar_store (i := 11) _ R Zb rfl rfl (by rfl) rfl rfl rfl a3 (by rw [HZBs.out, HR.out.1]) HR.out.2.1 (HIB.out _ HR.out.1) (hS.other hge _) (fun hS' => ?_) AllReadyH.nil)
          clear hS
          have hS := hS'
          refine mv_yield (i := 12) (d := 16) (.int .i64 q) rfl rfl (by kernel_rfl) (by kernel_rfl) (by kernel_rfl) hS (y_run (by rfl) fun _ => by rfl) ?_
          simp only [Act.put, List.setIfInBounds_toArray, List.set_cons_zero, List.set_cons_succ]
          refine mv_done (by kernel_rfl) ?_
          go_wp2_with fail
          go_meet
          exact ⟨_, rfl, rfl, Lib.hid hS', hge, Lib.hid (a3).setRow⟩
      case rest =>
        obtain ⟨b, rfl, rfl, HY, hb, HRb⟩ := hcut
        clear HY' HCO HCL
        have c2 := HP'.out.cell HY.out.1.2.2.2.2.2.2.2 16 (by omega)
        have f2 := HY.out.1.2.2.2.2.2.2.2.frozen 16
        have hcc := HY.out.2.1
        have HY2 := Lib.hid (HY.out.setP 16 (.int .i64 q)).1
        have HP2 := Lib.hid (mm_last HP'.out Hq.out)
        have HRb2 := Lib.hid (At.setCell_other (a := ⟨w.heap.size + 1 + 1 + 1 + 1 + 1, 16, none⟩) (v := .int .i64 q) HRb.out (by dsimp only; omega))
        obtain ⟨P2, hP2⟩ : ∃ P2, P'.setIfInBounds 16 (.int .i64 q) = P2 := ⟨_, rfl⟩
        rw [hP2] at HY2 HP2
        clear hP2 HY HRb
        go_wp2_with fail
        revert HRb2 HY2
        generalize World.setCell _ _ _ = W5
        intro HRb2 HY2
        clear c2 f2 wc
        refine mv_startS (Nz w T V U P2 b R) (show Nz w T V U P2 b R W5.drew from ⟨Zb, Zp, HZBs.out, HZPs.out, HY2.out.drew, HRb2.out, by omega⟩) fun hS => ?_
        refine mv_yield (i := 0) (d := 59) (.agg R) rfl rfl (by kernel_rfl) (by kernel_rfl) (by kernel_rfl) hS (y_load_part (l := 0) (by rfl) rfl rfl HR.out (fun w' h => h.atR) HR.out (by omega) (fun i _ => by rw [Nat.zero_add]) Try.underlying29 rfl (HIB.out _ HR.out.1)) ?_
        simp only [Act.put, List.setIfInBounds_toArray, List.set_cons_zero, List.set_cons_succ]
        refine mv_yield (i := 2) (d := 61) (.agg P2) rfl rfl (by kernel_rfl) (by kernel_rfl) (by kernel_rfl) hS (y_load_part (l := 0) (by rfl) rfl rfl HP2.out (fun w' h => h.atP) HP2.out (by omega) (fun i _ => by rw [Nat.zero_add]) Try.underlying31 rfl (HIP.out _ HP2.out.1)) ?_
        simp only [Act.put, List.setIfInBounds_toArray, List.set_cons_zero, List.set_cons_succ]
        have hbb : w.heap.size + 1 + 1 + 1 + 1 + 1 + 1 ≤ b := by omega
        refine mv_ready [1] (by kernel_rfl) (by simp) (ar_callP (i := 1) (d := 60) #[.agg R] rfl rfl (by rfl) rfl enter_sound (by kernel_rfl) (HCS.out _) (fun w' h => hS.next h) ?_ AllReadyH.nil)
        · rintro w1 h1 hS1
          simp only [Act.put, List.setIfInBounds_toArray, List.set_cons_zero, List.set_cons_succ]
          obtain ⟨A1, B1, s1, t1, n1, r1, _⟩ := hS1
          refine mv_ready [3] (by kernel_rfl) (by simp) (ar_store (i := 3) (w.heap.size + 1 + 1 + 1) Q A1 rfl rfl (by rfl) rfl rfl rfl n1.2.2.2.2.2.1 (by rw [s1, HQ.out.1]) HQ.out.2.1 (HIB.out _ HQ.out.1) (show Nz w T V U P2 b R _ from ⟨Q, _, HQ.out.1, t1, n1.setA Q, r1.setRow_other (by omega), hbb⟩) (fun _ => ?_) AllReadyH.nil)
          have n2 := n1.setA Q
          have r2 := r1.setRow_other (C := Q) (show b ≠ w.heap.size + 1 + 1 + 1 by omega)
          refine mv_ready [4] (by kernel_rfl) (by simp) (ar_store (i := 4) (w.heap.size + 1 + 1 + 1 + 1) P2 B1 rfl rfl (by rfl) rfl rfl rfl n2.2.2.2.2.2.2.1 (by rw [t1, HP2.out.1]) HP2.out.2.1 (HIP.out _ HP2.out.1) (show Nz w T V U P2 b R _ from ⟨_, P2, HQ.out.1, HP2.out.1, n2.setB P2, r2.setRow_other (by omega), hbb⟩) (fun _ => ?_) AllReadyH.nil)
          have HFN := Lib.hid (n2.setB P2)
          refine mv_done (by kernel_rfl) ?_
          go_wp2_with fail
          exact bodyPost_ret (v := .tuple #[.agg Q, .agg P2]) (results_any_two rfl _ _ (w.heap.size + 1 + 1 + 1) (w.heap.size + 1 + 1 + 1 + 1) Q P2 _ _ rfl rfl HFN.out.2.2.2.2.2.1 HFN.out.2.2.2.2.2.2.1 Try.underlying29 rfl (HIB.out _ HQ.out.1) Try.underlying31 rfl (HIP.out _ HP2.out.1)) rfl ⟨⟨Q, P2, rfl, HQ.out, HP2.out⟩, HFN.out.1⟩
end Go.Proofs.Ytfpmajlgbipbmaa.Sta
