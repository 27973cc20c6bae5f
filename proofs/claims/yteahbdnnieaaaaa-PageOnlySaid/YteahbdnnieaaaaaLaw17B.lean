/- The statement PageOnly. -/
import Derived.Test.YteahbdnnieaaaaaPaK
set_option maxRecDepth 100000
set_option linter.unusedVariables false
set_option linter.unusedSimpArgs false
namespace Go.Proofs.Yteahbdnnieaaaaa.Pa
open Go.RowKit Go.Proofs.Yteahbdnnieaaaaa.Row Go.Proofs.Yteahbdnnieaaaaa.Crc

set_option maxHeartbeats 4000000 in
theorem only_not (b : List UInt8) (w : World) (hb : b.length = 64) (hf : ¬ FormOk (fixb b)) :
    Calls Try.prog 4 #[.agg (bl b)] w fun e w' => e = .returned (.bool true) ∧ Below w.heap.size w w' := by
  have HBL := Lib.hid hb
  have HI0 := Lib.hid ((Hv.start w).alloc (bl b) 26)
  simp only [List.nil_append] at HI0
  have hz := zero_pg
  have hzp := zero_api
  have HF := Lib.hid hf
  clear hf
  clear hb
  go_enter Try.func4, Try.ntmps4
  go_wp2_with fail
  refine (awake_as _).mono ?_
  rintro e w1 ⟨rfl, hb⟩
  have HI1 := Lib.hid (HI0.out.next hb)
  clear hb
  have hcv := conv_bl (HI1.out.at (i := 0) rfl) 4 60 60 (by rw [HBL.out]; omega)
  go_wp2_with fail
  refine (rsum_as b HBL.out _).mono ?_
  rintro e w2 ⟨rfl, hb⟩
  have HI2 := Lib.hid ((hb ▸ HI1.out : Hv w _ w2))
  clear hb
  go_wp2_with fail
  refine (refFour_any _ _ (moreS_lt _ _)).mono ?_
  rintro e w3 ⟨rfl, hb⟩
  have HI3 := Lib.hid (HI2.out.next hb)
  clear hb
  have hS0 : (⟨(fourL (moreS 0 (b.drop 4))).toArray⟩ : ByteArray).data.toList = fourL (moreS 0 (b.drop 4)) := rfl
  have hSs : (⟨(fourL (moreS 0 (b.drop 4))).toArray⟩ : ByteArray).size = 4 := rfl
  revert hS0 hSs
  generalize (⟨(fourL (moreS 0 (b.drop 4))).toArray⟩ : ByteArray) = SX
  intro hS0 hSs
  have HSX := Lib.hid hS0
  have HSS := Lib.hid hSs
  clear hS0 hcv
  go_wp2_with fail
  rw [← fixk_0 b] at HI3
  go_loopw [4] (fun i w' => ∃ k : Nat, k ≤ 4 ∧ i = .int .i64 k ∧ Hid (Hv w [(w.heap.size, bl (fixk b k), 26)] w')) (fun i _ => 4 - (intOf i).toNat)
  case atStart => exact ⟨0, by omega, rfl, HI3⟩
  case round =>
    obtain ⟨k, hk, rfl, HK⟩ := hrel
    clear HI3
    by_cases hlt : k < 4
    · have hA := HK.out.at (i := 0) rfl
      have hkl := fixk_len HBL.out hk
      have c1 : wr.cell? ⟨w.heap.size, k, none⟩ = some (.int .u8 (B (fixk b k) k)) := by rw [cell_of_row _ _ _ _ _ _ hA, bl_at _ k (by rw [hkl]; omega)]
      have c2 : wr.frozen? ⟨w.heap.size, k, none⟩ = false := hA.frozen k
      have hkS : k < SX.size := by rw [HSS.out]; exact hlt
      have hn := HK.out.cell (i := 0) rfl k (.int .u8 ((((fourL (moreS 0 (b.drop 4))).getD k 0).toNat : Nat) : Int))
      rw [bl_set, fixk_put HBL.out hlt] at hn
      have hYL : ((fourL (moreS 0 (b.drop 4))).getD k 0) = SX[k] := by
        rw [← HSX.out, gd_get _ _ (by rw [← size_list]; exact hkS)]; rfl
      rw [hYL] at hn
      have HNX := Lib.hid hn
      clear hn hYL hA HK
      go_wp2
      go_roundw
      case rel => exact ⟨k + 1, by omega, by go_num, HNX⟩
      case measure => simp [intOf]; omega
    · obtain rfl : k = 4 := by omega
      rw [fixk_4] at HK
      rw [show ((4 : Nat) : Int) = 4 from rfl]
      have HI4 := HK
      clear HK
      obtain ⟨M, hM⟩ : ∃ M, fixb b = M := ⟨_, rfl⟩
      have HM := Lib.hid hM
      have HML := Lib.hid (show M.length = 64 by rw [← hM]; exact fixb_len HBL.out)
      have HMS := Lib.hid (show SumOk M by rw [← hM]; exact fixb_sum b)
      rw [hM] at HI4 HF
      clear hM
      have HBM := Lib.hid (show (bl M).size = 64 by rw [bl_size, HML.out])
      have hrd : ∀ w, Calls Try.prog 12 #[.agg (bl M)] w fun e w' => e = .returned (.tuple #[.agg (pgV Pv.zero), .int .i64 4]) ∧ Below w.heap.size w w' := fun w => by
        have h := read_as M w HML.out
        rw [(rd_form HMS.out HF.out).1, (rd_form HMS.out HF.out).2] at h
        exact h
      obtain ⟨T, hT⟩ : ∃ T, pgV Pv.zero = T := ⟨_, rfl⟩
      have HT := Lib.hid hT
      have HTS := Lib.hid (show T.size = 6 by rw [← hT]; rfl)
      have HT1 := Lib.hid (show T.all (·.oneCell') = true by rw [← hT]; exact pgV_one _)
      have hbt := built_z
      rw [hT] at hz hbt
      clear hT
      rw [HT.out] at hrd
      have HRD := Lib.hid hrd
      clear hrd
      have hE : ∀ w, (Op.equalIn 10000 31 (.agg T) (.agg T)).run Try.prog w = .ok true w := fun w => by rw [← HT.out, pages_is, pEq_self]
      go_wp2_with (first
        | (refine wpList_load_w rfl 26 _ rfl _ rfl (HI4.out.at (i := 0) rfl) Try.underlying26 rfl (info_64 HBM.out) ?_)
        | fail)
      refine (HRD.out _).mono ?_
      rintro e w5 ⟨rfl, hb⟩
      have HI5 := Lib.hid (HI4.out.next hb)
      clear hb
      go_upto_region 9 with (first
        | (refine wpList_store_row rfl 31 _ _ rfl w5.heap.size T rfl rfl _ _ (heap_alloc_new _ _) (info_pg HTS.out) rfl HT1.out ?_)
        | fail)
      rw [World.setRow_alloc_new]
      have HI6 := Lib.hid (HI5.out.alloc T 31)
      have HGgp := Lib.hid (HI5.out.below.size)
      revert HI6 HGgp
      generalize World.alloc w5 _ = W6
      generalize w5.heap.size = gp
      intro HI6 HGgp
      simp only [List.nil_append, List.cons_append] at HI6
      go_wp2_with (first
        | (refine wpList_load_w rfl 31 _ rfl _ rfl (HI6.out.at (i := 1) rfl) Try.underlying31 rfl (info_pg HTS.out) ?_)
        | (refine wpList_build_parts (by rfl) 31 [] rfl _ rfl hbt ?_)
        | fail)
      go_ret
      exact ⟨rfl, HI6.out.below⟩

set_option maxHeartbeats 4000000 in
theorem only_yes (b : List UInt8) (w : World) (hb : b.length = 64) (hf : FormOk (fixb b)) :
    Calls Try.prog 4 #[.agg (bl b)] w fun e w' => e = .returned (.bool true) ∧ Below w.heap.size w w' := by
  have HBL := Lib.hid hb
  have HI0 := Lib.hid ((Hv.start w).alloc (bl b) 26)
  simp only [List.nil_append] at HI0
  have hz := zero_pg
  have hzp := zero_api
  have HF := Lib.hid hf
  clear hf
  clear hb
  go_enter Try.func4, Try.ntmps4
  go_wp2_with fail
  refine (awake_as _).mono ?_
  rintro e w1 ⟨rfl, hb⟩
  have HI1 := Lib.hid (HI0.out.next hb)
  clear hb
  have hcv := conv_bl (HI1.out.at (i := 0) rfl) 4 60 60 (by rw [HBL.out]; omega)
  go_wp2_with fail
  refine (rsum_as b HBL.out _).mono ?_
  rintro e w2 ⟨rfl, hb⟩
  have HI2 := Lib.hid ((hb ▸ HI1.out : Hv w _ w2))
  clear hb
  go_wp2_with fail
  refine (refFour_any _ _ (moreS_lt _ _)).mono ?_
  rintro e w3 ⟨rfl, hb⟩
  have HI3 := Lib.hid (HI2.out.next hb)
  clear hb
  have hS0 : (⟨(fourL (moreS 0 (b.drop 4))).toArray⟩ : ByteArray).data.toList = fourL (moreS 0 (b.drop 4)) := rfl
  have hSs : (⟨(fourL (moreS 0 (b.drop 4))).toArray⟩ : ByteArray).size = 4 := rfl
  revert hS0 hSs
  generalize (⟨(fourL (moreS 0 (b.drop 4))).toArray⟩ : ByteArray) = SX
  intro hS0 hSs
  have HSX := Lib.hid hS0
  have HSS := Lib.hid hSs
  clear hS0 hcv
  go_wp2_with fail
  rw [← fixk_0 b] at HI3
  go_loopw [4] (fun i w' => ∃ k : Nat, k ≤ 4 ∧ i = .int .i64 k ∧ Hid (Hv w [(w.heap.size, bl (fixk b k), 26)] w')) (fun i _ => 4 - (intOf i).toNat)
  case atStart => exact ⟨0, by omega, rfl, HI3⟩
  case round =>
    obtain ⟨k, hk, rfl, HK⟩ := hrel
    clear HI3
    by_cases hlt : k < 4
    · have hA := HK.out.at (i := 0) rfl
      have hkl := fixk_len HBL.out hk
      have c1 : wr.cell? ⟨w.heap.size, k, none⟩ = some (.int .u8 (B (fixk b k) k)) := by rw [cell_of_row _ _ _ _ _ _ hA, bl_at _ k (by rw [hkl]; omega)]
      have c2 : wr.frozen? ⟨w.heap.size, k, none⟩ = false := hA.frozen k
      have hkS : k < SX.size := by rw [HSS.out]; exact hlt
      have hn := HK.out.cell (i := 0) rfl k (.int .u8 ((((fourL (moreS 0 (b.drop 4))).getD k 0).toNat : Nat) : Int))
      rw [bl_set, fixk_put HBL.out hlt] at hn
      have hYL : ((fourL (moreS 0 (b.drop 4))).getD k 0) = SX[k] := by
        rw [← HSX.out, gd_get _ _ (by rw [← size_list]; exact hkS)]; rfl
      rw [hYL] at hn
      have HNX := Lib.hid hn
      clear hn hYL hA HK
      go_wp2
      go_roundw
      case rel => exact ⟨k + 1, by omega, by go_num, HNX⟩
      case measure => simp [intOf]; omega
    · obtain rfl : k = 4 := by omega
      rw [fixk_4] at HK
      rw [show ((4 : Nat) : Int) = 4 from rfl]
      have HI4 := HK
      clear HK
      obtain ⟨M, hM⟩ : ∃ M, fixb b = M := ⟨_, rfl⟩
      have HM := Lib.hid hM
      have HML := Lib.hid (show M.length = 64 by rw [← hM]; exact fixb_len HBL.out)
      have HMS := Lib.hid (show SumOk M by rw [← hM]; exact fixb_sum b)
      rw [hM] at HI4 HF
      clear hM
      have HBM := Lib.hid (show (bl M).size = 64 by rw [bl_size, HML.out])
      have hpr := (pg_right HML.out HF.out)
      have HR := Lib.hid hpr.1
      have HO := Lib.hid hpr.2
      have hrd : ∀ w, Calls Try.prog 12 #[.agg (bl M)] w fun e w' => e = .returned (.tuple #[.agg (pgV (pg M)), .int .i64 0]) ∧ Below w.heap.size w w' := fun w => by
        have h := read_as M w HML.out
        rw [(rd_yes HMS.out HF.out).1, (rd_yes HMS.out HF.out).2] at h
        exact h
      have hly : ∀ w, Calls Try.prog 9 #[.agg (pgV (pg M))] w fun e w' => e = .returned (.tuple #[.agg (bl M), .int .i64 0]) ∧ Below w.heap.size w w' := fun w => by
        have h := lay_yes (pg M) w (Nat.le_trans HR.out.2.1 (by decide)) HO.out HR.out
        rw [lay_pg HML.out HMS.out HF.out] at h
        exact h
      have hrt : ∀ w, Calls Try.prog 11 #[.agg (pgV (pg M))] w fun e w' => e = .returned (.bool true) ∧ Below w.heap.size w w' := fun w => by
        have h := right_any (pg M) w (Nat.le_trans HR.out.2.1 (by decide))
        rw [decide_eq_true HR.out] at h
        exact h
      clear hpr
      obtain ⟨P, hP⟩ : ∃ P, pgV (pg M) = P := ⟨_, rfl⟩
      have HPS := Lib.hid (show P.size = 6 by rw [← hP]; rfl)
      have HP1 := Lib.hid (show P.all (·.oneCell') = true by rw [← hP]; exact pgV_one _)
      rw [hP] at hrd hly hrt
      have HRD := Lib.hid hrd
      have HLY := Lib.hid hly
      have HRT := Lib.hid hrt
      clear hrd hly hrt hP
      obtain ⟨Z, hZ⟩ : ∃ Z, bl z64 = Z := ⟨_, rfl⟩
      have HZS := Lib.hid (show Z.size = 64 by rw [← hZ, bl_size, z64_len])
      rw [hZ] at hzp
      clear hZ
      have HB1 := Lib.hid (bl_one M)
      have hE : ∀ w, (Op.equalIn 10000 27 (.agg (bl M)) (.agg (bl M))).run Try.prog w = .ok true w := fun w => by rw [bytes_is HML.out HML.out, decide_eq_true rfl]
      obtain ⟨T, hT⟩ : ∃ T, pgV Pv.zero = T := ⟨_, rfl⟩
      have HT := Lib.hid hT
      have HTS := Lib.hid (show T.size = 6 by rw [← hT]; rfl)
      have HT1 := Lib.hid (show T.all (·.oneCell') = true by rw [← hT]; exact pgV_one _)
      have hbt := built_z
      rw [hT] at hz hbt
      clear hT
      go_wp2_with (first
        | (refine wpList_load_w rfl 26 _ rfl _ rfl (HI4.out.at (i := 0) rfl) Try.underlying26 rfl (info_64 HBM.out) ?_)
        | fail)
      refine (HRD.out _).mono ?_
      rintro e w5 ⟨rfl, hb⟩
      have HI5 := Lib.hid (HI4.out.next hb)
      clear hb
      go_upto_region 9 with (first
        | (refine wpList_store_row rfl 31 _ _ rfl w5.heap.size P rfl rfl _ _ (heap_alloc_new _ _) (info_pg HPS.out) (by rw [HPS.out, HTS.out]) HP1.out ?_)
        | fail)
      rw [World.setRow_alloc_new]
      have HI6 := Lib.hid (HI5.out.alloc P 31)
      have HGgp := Lib.hid (HI5.out.below.size)
      revert HI6 HGgp
      generalize World.alloc w5 _ = W6
      generalize w5.heap.size = gp
      intro HI6 HGgp
      simp only [List.nil_append, List.cons_append] at HI6
      go_wp2_with (first
        | (refine wpList_load_w rfl 31 _ rfl _ rfl (HI6.out.at (i := 1) rfl) Try.underlying31 rfl (info_pg HPS.out) ?_)
        | fail)
      refine (HLY.out _).mono ?_
      rintro e w7 ⟨rfl, hb⟩
      have HI7 := Lib.hid (HI6.out.next hb)
      clear hb
      go_upto_region 12 with (first
        | (refine wpList_store_row rfl 27 _ _ rfl w7.heap.size (bl M) rfl rfl _ _ (heap_alloc_new _ _) (info_api HBM.out) (by rw [HBM.out, HZS.out]) HB1.out ?_)
        | fail)
      rw [World.setRow_alloc_new]
      have HI8 := Lib.hid (HI7.out.alloc (bl M) 27)
      have HGgc := Lib.hid (HI7.out.below.size)
      revert HI8 HGgc
      generalize World.alloc w7 _ = W8
      generalize w7.heap.size = gc
      intro HI8 HGgc
      simp only [List.nil_append, List.cons_append] at HI8
      go_wp2_with (first
        | (refine wpList_load_w rfl 27 _ rfl _ rfl (HI8.out.at (i := 2) rfl) Try.underlying27 rfl (info_api HBM.out) ?_)
        | (refine wpList_load_w rfl 26 _ rfl _ rfl (HI8.out.at (i := 0) rfl) Try.underlying26 rfl (info_64 HBM.out) ?_)
        | (refine wpList_load_w rfl 27 _ rfl _ rfl (HI8.out.at (i := 0) rfl) Try.underlying27 rfl (info_api HBM.out) ?_)
        | (refine wpList_load_w rfl 31 _ rfl _ rfl (HI8.out.at (i := 1) rfl) Try.underlying31 rfl (info_pg HPS.out) ?_)
        | fail)
      refine (HRT.out _).mono ?_
      rintro e w9 ⟨rfl, hb⟩
      have HI9 := Lib.hid (HI8.out.next hb)
      clear hb
      go_wp2_with fail
      go_ret
      exact ⟨rfl, HI9.out.below⟩

theorem only_all (b : List UInt8) (T : Array Value) (w : World) (hb : Byts b T) :
    Calls Try.prog 4 #[.agg T] w fun e w' => e = .returned (.bool true) ∧ Below w.heap.size w w' := by
  rw [hb.eq]
  by_cases h : FormOk (fixb b)
  · exact only_yes b w hb.1 h
  · exact only_not b w hb.1 h
end Go.Proofs.Yteahbdnnieaaaaa.Pa
