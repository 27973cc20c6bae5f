/- The statement PageHeads. -/
import Derived.Test.YteahbdnnieaaaaaPaK
set_option maxRecDepth 100000
set_option linter.unusedVariables false
set_option linter.unusedSimpArgs false
namespace Go.Proofs.Yteahbdnnieaaaaa.Pa
open Go.RowKit Go.Proofs.Yteahbdnnieaaaaa.Row Go.Proofs.Yteahbdnnieaaaaa.Crc

theorem enter_plain (args : Array Value) (w : World) : (callFunc 13 args).run Try.prog w = .ok (.enter 13 args) w := run_enter Try.func13 (by kernel_rfl) rfl args w
theorem set_same {l : List UInt8} {i : Nat} {c : UInt8} (hi : i < l.length) (h : B l i = c.toNat) : l.set i c = l := by
  apply List.ext_getElem?
  intro j
  rw [List.getElem?_set]
  split
  · rename_i e; subst e
    first | rw [List.getElem?_eq_getElem hi] | rw [if_pos hi, List.getElem?_eq_getElem hi]
    congr 1
    apply UInt8.toNat_inj.1
    rw [← h]
    unfold B
    rw [gd_get _ _ hi]
  · rfl

set_option maxHeartbeats 4000000 in
theorem heads_big (p : Pv) (kb sb : UInt8) (w : World) (ho : p.Ok) (hd : p.d.length ≤ maxLen) (hbig : 200 < p.d.length) :
    Calls Try.prog 7 #[.agg (pgV p), .int .u8 (kb.toNat : Int), .int .u8 (sb.toNat : Int)] w fun e w' => e = .returned (.bool true) ∧ Below w.heap.size w w' := by
  have HO := Lib.hid ho
  have HD := Lib.hid hd
  have HI0 := Lib.hid ((Hv.start w).alloc (pgV p) 24)
  simp only [List.nil_append] at HI0
  have kl := kb.toNat_lt
  have sl := sb.toNat_lt
  obtain ⟨P, hP⟩ : ∃ P, pgV p = P := ⟨_, rfl⟩
  obtain ⟨X, hX⟩ : ∃ X : ByteArray, ⟨p.d.toArray⟩ = X := ⟨_, rfl⟩
  have HP := Lib.hid hP
  have HPS := Lib.hid (show P.size = 6 by rw [← hP]; rfl)
  have HX5 := Lib.hid (show P[5]? = some (.string X) by rw [← hP, ← hX]; rfl)
  have HX2 := Lib.hid (show P[2]? = some (.int .i64 p.k) by rw [← hP]; rfl)
  obtain ⟨N, hN⟩ : ∃ N, p.d.length = N := ⟨_, rfl⟩
  have hs : X.size = N := by rw [← hX, ← hN]; simp [ByteArray.size]
  have HN := Lib.hid hN
  have hz := zero_pg
  have hzp := zero_api
  rw [hP] at HI0 ⊢
  have hbig' : 200 < N := by rw [← hN]; exact hbig
  clear hbig
  clear ho hd hP hX hN
  go_enter Try.func7, Try.ntmps7
  go_wp2_with fail
  refine (awake_as _).mono ?_
  rintro e w1 ⟨rfl, hb⟩
  have HI1 := Lib.hid (HI0.out.next hb)
  clear hb
  have c5 : w1.cell? ⟨w.heap.size, 5, none⟩ = some (.string X) := by rw [cell_of_row _ _ _ _ _ _ (HI1.out.at (i := 0) rfl)]; exact HX5.out
  go_wp2_with fail
  refine (awake_as _).mono ?_
  rintro e w2 ⟨rfl, hb⟩
  have HI2 := Lib.hid (HI1.out.next hb)
  clear hb
  go_wp2_with fail
  go_ret
  exact ⟨rfl, HI2.out.below⟩

set_option maxHeartbeats 4000000 in
theorem heads_not (p : Pv) (kb sb : UInt8) (w : World) (ho : p.Ok) (hd : p.d.length ≤ maxLen) (hbig : ¬ 200 < p.d.length) (hr : ¬ p.right) :
    Calls Try.prog 7 #[.agg (pgV p), .int .u8 (kb.toNat : Int), .int .u8 (sb.toNat : Int)] w fun e w' => e = .returned (.bool true) ∧ Below w.heap.size w w' := by
  have HO := Lib.hid ho
  have HD := Lib.hid hd
  have HI0 := Lib.hid ((Hv.start w).alloc (pgV p) 24)
  simp only [List.nil_append] at HI0
  have kl := kb.toNat_lt
  have sl := sb.toNat_lt
  obtain ⟨P, hP⟩ : ∃ P, pgV p = P := ⟨_, rfl⟩
  obtain ⟨X, hX⟩ : ∃ X : ByteArray, ⟨p.d.toArray⟩ = X := ⟨_, rfl⟩
  have HP := Lib.hid hP
  have HPS := Lib.hid (show P.size = 6 by rw [← hP]; rfl)
  have HX5 := Lib.hid (show P[5]? = some (.string X) by rw [← hP, ← hX]; rfl)
  have HX2 := Lib.hid (show P[2]? = some (.int .i64 p.k) by rw [← hP]; rfl)
  obtain ⟨N, hN⟩ : ∃ N, p.d.length = N := ⟨_, rfl⟩
  have hs : X.size = N := by rw [← hX, ← hN]; simp [ByteArray.size]
  have HN := Lib.hid hN
  have hz := zero_pg
  have hzp := zero_api
  rw [hP] at HI0 ⊢
  have hbig' : ¬ 200 < N := by rw [← hN]; exact hbig
  have HR := Lib.hid hr
  clear hbig hr
  clear ho hd hP hX hN
  go_enter Try.func7, Try.ntmps7
  go_wp2_with fail
  refine (awake_as _).mono ?_
  rintro e w1 ⟨rfl, hb⟩
  have HI1 := Lib.hid (HI0.out.next hb)
  clear hb
  have c5 : w1.cell? ⟨w.heap.size, 5, none⟩ = some (.string X) := by rw [cell_of_row _ _ _ _ _ _ (HI1.out.at (i := 0) rfl)]; exact HX5.out
  go_upto_region 3 with (first
    | (refine wpList_load_w rfl 24 _ rfl _ rfl (HI1.out.at (i := 0) rfl) Try.underlying24 rfl (info_rp HPS.out) ?_)
    | fail)
  go_wp2_with (first
    | (refine wpList_load_w rfl 24 _ rfl _ rfl (HI1.out.at (i := 0) rfl) Try.underlying24 rfl (info_rp HPS.out) ?_)
    | fail)
  rw [← HP.out]
  refine (of_any p _).mono ?_
  rintro e w2 ⟨rfl, hb⟩
  have HI2 := Lib.hid (HI1.out.next hb)
  clear hb
  go_wp2_with fail
  refine (lay_no p _ HD.out HR.out).mono ?_
  rintro e w3 ⟨rfl, hb⟩
  have HI3 := Lib.hid (HI2.out.next hb)
  clear hb
  rw [HP.out]
  obtain ⟨l, hl⟩ : ∃ l, z64 = l := ⟨_, rfl⟩
  have HEl := Lib.hid hl
  have HLl := Lib.hid (show l.length = 64 by rw [← hl]; exact z64_len)
  have HSl := Lib.hid (show (bl l).size = 64 by rw [bl_size, HLl.out])
  have HZl := Lib.hid (show (bl z64).size = 64 by rw [bl_size, z64_len])
  have H1l := Lib.hid (bl_one l)
  rw [hl]
  clear hl
  go_upto_region 4 with (first
    | (refine wpList_store_row rfl 27 _ _ rfl w3.heap.size (bl l) rfl rfl _ _ (heap_alloc_new _ _) (info_api HSl.out) (by first | rfl | rw [HZl.out, HSl.out]) H1l.out ?_)
    | fail)
  rw [World.setRow_alloc_new]
  have HI4 := Lib.hid (HI3.out.alloc (bl l) 27)
  have HGgb := Lib.hid (HI3.out.below.size)
  revert HI4 HGgb
  generalize World.alloc w3 _ = W4
  generalize w3.heap.size = gb
  intro HI4 HGgb
  simp only [List.nil_append, List.cons_append] at HI4
  go_wp2_with fail
  go_ret
  exact ⟨rfl, HI4.out.below⟩

set_option maxHeartbeats 4000000 in
theorem heads_form (p : Pv) (kb sb : UInt8) (w : World) (ho : p.Ok) (hd : p.d.length ≤ maxLen) (hbig : ¬ 200 < p.d.length) (hr : p.right) (hf : ¬ FormOk (fixb ((p.lay.set 12 kb).set 14 sb))) :
    Calls Try.prog 7 #[.agg (pgV p), .int .u8 (kb.toNat : Int), .int .u8 (sb.toNat : Int)] w fun e w' => e = .returned (.bool true) ∧ Below w.heap.size w w' := by
  have HO := Lib.hid ho
  have HD := Lib.hid hd
  have HI0 := Lib.hid ((Hv.start w).alloc (pgV p) 24)
  simp only [List.nil_append] at HI0
  have kl := kb.toNat_lt
  have sl := sb.toNat_lt
  obtain ⟨P, hP⟩ : ∃ P, pgV p = P := ⟨_, rfl⟩
  obtain ⟨X, hX⟩ : ∃ X : ByteArray, ⟨p.d.toArray⟩ = X := ⟨_, rfl⟩
  have HP := Lib.hid hP
  have HPS := Lib.hid (show P.size = 6 by rw [← hP]; rfl)
  have HX5 := Lib.hid (show P[5]? = some (.string X) by rw [← hP, ← hX]; rfl)
  have HX2 := Lib.hid (show P[2]? = some (.int .i64 p.k) by rw [← hP]; rfl)
  obtain ⟨N, hN⟩ : ∃ N, p.d.length = N := ⟨_, rfl⟩
  have hs : X.size = N := by rw [← hX, ← hN]; simp [ByteArray.size]
  have HN := Lib.hid hN
  have hz := zero_pg
  have hzp := zero_api
  rw [hP] at HI0 ⊢
  have hbig' : ¬ 200 < N := by rw [← hN]; exact hbig
  have HR := Lib.hid hr
  clear hbig hr
  have HF := Lib.hid hf
  clear hf
  clear ho hd hP hX hN
  go_enter Try.func7, Try.ntmps7
  go_wp2_with fail
  refine (awake_as _).mono ?_
  rintro e w1 ⟨rfl, hb⟩
  have HI1 := Lib.hid (HI0.out.next hb)
  clear hb
  have c5 : w1.cell? ⟨w.heap.size, 5, none⟩ = some (.string X) := by rw [cell_of_row _ _ _ _ _ _ (HI1.out.at (i := 0) rfl)]; exact HX5.out
  go_upto_region 3 with (first
    | (refine wpList_load_w rfl 24 _ rfl _ rfl (HI1.out.at (i := 0) rfl) Try.underlying24 rfl (info_rp HPS.out) ?_)
    | fail)
  go_wp2_with (first
    | (refine wpList_load_w rfl 24 _ rfl _ rfl (HI1.out.at (i := 0) rfl) Try.underlying24 rfl (info_rp HPS.out) ?_)
    | fail)
  rw [← HP.out]
  refine (of_any p _).mono ?_
  rintro e w2 ⟨rfl, hb⟩
  have HI2 := Lib.hid (HI1.out.next hb)
  clear hb
  go_wp2_with fail
  refine (lay_yes p _ HD.out HO.out HR.out).mono ?_
  rintro e w3 ⟨rfl, hb⟩
  have HI3 := Lib.hid (HI2.out.next hb)
  clear hb
  rw [HP.out]
  obtain ⟨l, hl⟩ : ∃ l, p.lay = l := ⟨_, rfl⟩
  have HEl := Lib.hid hl
  have HLl := Lib.hid (show l.length = 64 by rw [← hl]; exact Pv.lay_length HR.out)
  have HSl := Lib.hid (show (bl l).size = 64 by rw [bl_size, HLl.out])
  have HZl := Lib.hid (show (bl z64).size = 64 by rw [bl_size, z64_len])
  have H1l := Lib.hid (bl_one l)
  rw [hl]
  clear hl
  go_upto_region 4 with (first
    | (refine wpList_store_row rfl 27 _ _ rfl w3.heap.size (bl l) rfl rfl _ _ (heap_alloc_new _ _) (info_api HSl.out) (by first | rfl | rw [HZl.out, HSl.out]) H1l.out ?_)
    | fail)
  rw [World.setRow_alloc_new]
  have HI4 := Lib.hid (HI3.out.alloc (bl l) 27)
  have HGgb := Lib.hid (HI3.out.below.size)
  revert HI4 HGgb
  generalize World.alloc w3 _ = W4
  generalize w3.heap.size = gb
  intro HI4 HGgb
  simp only [List.nil_append, List.cons_append] at HI4
  have hA := HI4.out.at (i := 1) rfl
  have c12 : W4.cell? ⟨gb, 12, none⟩ = some (.int .u8 (B l 12)) := by rw [cell_of_row _ _ _ _ _ _ hA, bl_at _ 12 (by rw [HLl.out]; omega)]
  have f12 : W4.frozen? ⟨gb, 12, none⟩ = false := hA.frozen 12
  have hi5 := HI4.out.cell (i := 1) rfl 12 (.int .u8 (kb.toNat : Int))
  rw [bl_set] at hi5
  have hA5 := hi5.at (i := 1) rfl
  have c14 : (W4.setCell ⟨gb, 12, none⟩ (.int .u8 (kb.toNat : Int))).cell? ⟨gb, 14, none⟩ = some (.int .u8 (B (l.set 12 kb) 14)) := by rw [cell_of_row _ _ _ _ _ _ hA5, bl_at _ 14 (by rw [List.length_set, HLl.out]; omega)]
  have f14 : (W4.setCell ⟨gb, 12, none⟩ (.int .u8 (kb.toNat : Int))).frozen? ⟨gb, 14, none⟩ = false := hA5.frozen 14
  have hi6 := hi5.cell (i := 1) rfl 14 (.int .u8 (sb.toNat : Int))
  rw [bl_set] at hi6
  simp only [List.set_cons_succ, List.set_cons_zero] at hi6
  have HI6 := Lib.hid hi6
  clear hA hA5 hi5 hi6
  go_upto_region 7 with fail
  clear c12 f12 c14 f14
  revert HI6
  generalize World.setCell _ _ _ = W6
  intro HI6
  obtain ⟨b, hb⟩ : ∃ b, (l.set 12 kb).set 14 sb = b := ⟨_, rfl⟩
  have HBL := Lib.hid (show b.length = 64 by rw [← hb, List.length_set, List.length_set]; exact HLl.out)
  rw [hb] at HI6
  have HB := Lib.hid hb
  clear hb
  have hcv := conv_bl (HI6.out.at (i := 1) rfl) 4 60 60 (by rw [HBL.out]; omega)
  go_wp2_with fail
  refine (rsum_as b HBL.out _).mono ?_
  rintro e w7 ⟨rfl, hb⟩
  have HI7 := Lib.hid ((hb ▸ HI6.out : Hv w _ w7))
  clear hb
  go_wp2_with fail
  refine (refFour_any _ _ (moreS_lt _ _)).mono ?_
  rintro e w8 ⟨rfl, hb⟩
  have HI8 := Lib.hid (HI7.out.next hb)
  clear hb
  have hS0 : (⟨(fourL (moreS 0 (b.drop 4))).toArray⟩ : ByteArray).data.toList = fourL (moreS 0 (b.drop 4)) := rfl
  have hSs : (⟨(fourL (moreS 0 (b.drop 4))).toArray⟩ : ByteArray).size = 4 := rfl
  revert hS0 hSs
  generalize (⟨(fourL (moreS 0 (b.drop 4))).toArray⟩ : ByteArray) = SX
  intro hS0 hSs
  have HSX := Lib.hid hS0
  have HSS := Lib.hid hSs
  clear hS0 hcv
  go_wp2_with fail
  rw [← fixk_0 b] at HI8
  go_loopw [10] (fun i w' => ∃ k : Nat, k ≤ 4 ∧ i = .int .i64 k ∧ Hid (Hv w [(w.heap.size, P, 24), (gb, bl (fixk b k), 27)] w')) (fun i _ => 4 - (intOf i).toNat)
  case atStart => exact ⟨0, by omega, rfl, HI8⟩
  case round =>
    obtain ⟨k, hk, rfl, HK⟩ := hrel
    clear HI8
    by_cases hlt : k < 4
    · have hA := HK.out.at (i := 1) rfl
      have hkl := fixk_len HBL.out hk
      have c1 : wr.cell? ⟨gb, k, none⟩ = some (.int .u8 (B (fixk b k) k)) := by rw [cell_of_row _ _ _ _ _ _ hA, bl_at _ k (by rw [hkl]; omega)]
      have c2 : wr.frozen? ⟨gb, k, none⟩ = false := hA.frozen k
      have hkS : k < SX.size := by rw [HSS.out]; exact hlt
      have hn := HK.out.cell (i := 1) rfl k (.int .u8 ((((fourL (moreS 0 (b.drop 4))).getD k 0).toNat : Nat) : Int))
      rw [bl_set, fixk_put HBL.out hlt] at hn
      simp only [List.set_cons_succ, List.set_cons_zero] at hn
      have hYL : ((fourL (moreS 0 (b.drop 4))).getD k 0) = SX[k] := by
        rw [← HSX.out, gd_get _ _ (by rw [← size_list]; exact hkS)]; rfl
      rw [hYL] at hn
      have HNX := Lib.hid hn
      clear hn hYL hA HK
      go_wp2
      go_roundw
      case rel => exact ⟨k + 1, by omega, by go_num, HNX⟩
      case measure => simp [intOf]; omega
    · obtain rfl : k = 4 := by omega
      rw [fixk_4] at HK
      rw [show ((4 : Nat) : Int) = 4 from rfl]
      have HI9 := HK
      clear HK
      obtain ⟨M, hM⟩ : ∃ M, fixb b = M := ⟨_, rfl⟩
      have HM := Lib.hid hM
      have HML := Lib.hid (show M.length = 64 by rw [← hM]; exact fixb_len HBL.out)
      have HMS := Lib.hid (show SumOk M by rw [← hM]; exact fixb_sum b)
      have HMK := Lib.hid (show M = fixb ((p.lay.set 12 kb).set 14 sb) by rw [← hM, ← HB.out, ← HEl.out])
      rw [hM] at HI9
      clear hM
      have HBM := Lib.hid (show (bl M).size = 64 by rw [bl_size, HML.out])
      obtain ⟨T, hT⟩ : ∃ T, pgV Pv.zero = T := ⟨_, rfl⟩
      have HT := Lib.hid hT
      have HTS := Lib.hid (show T.size = 6 by rw [← hT]; rfl)
      have HT1 := Lib.hid (show T.all (·.oneCell') = true by rw [← hT]; exact pgV_one _)
      rw [hT] at hz
      clear hT
      rw [← HMK.out] at HF
      have hrd : ∀ w, Calls Try.prog 12 #[.agg (bl M)] w fun e w' => e = .returned (.tuple #[.agg (pgV Pv.zero), .int .i64 4]) ∧ Below w.heap.size w w' := fun w => by
        have h := read_as M w HML.out
        rw [(rd_form HMS.out HF.out).1, (rd_form HMS.out HF.out).2] at h
        exact h
      rw [HT.out] at hrd
      have HRD := Lib.hid hrd
      clear hrd
      go_wp2_with (first
        | (refine wpList_load_w rfl 27 _ rfl _ rfl (HI9.out.at (i := 1) rfl) Try.underlying27 rfl (info_api HBM.out) ?_)
        | fail)
      refine (HRD.out _).mono ?_
      rintro e w10 ⟨rfl, hb⟩
      have HI10 := Lib.hid (HI9.out.next hb)
      clear hb
      go_upto_region 13 with (first
        | (refine wpList_store_row rfl 31 _ _ rfl w10.heap.size T rfl rfl _ _ (heap_alloc_new _ _) (info_pg HTS.out) rfl HT1.out ?_)
        | fail)
      rw [World.setRow_alloc_new]
      have HI11 := Lib.hid (HI10.out.alloc T 31)
      have HGgp := Lib.hid (HI10.out.below.size)
      revert HI11 HGgp
      generalize World.alloc w10 _ = W11
      generalize w10.heap.size = gp
      intro HI11 HGgp
      simp only [List.nil_append, List.cons_append] at HI11
      go_wp2_with fail
      go_ret
      exact ⟨rfl, HI11.out.below⟩

set_option maxHeartbeats 4000000 in
theorem heads_tt1 (p : Pv) (kb sb : UInt8) (w : World) (ho : p.Ok) (hd : p.d.length ≤ maxLen) (hbig : ¬ 200 < p.d.length) (hr : p.right) (hf : FormOk (fixb ((p.lay.set 12 kb).set 14 sb))) (he1 : (kb.toNat : Int) = p.k) (he2 : sb.toNat = p.d.length) (hke : kb.toNat = 1) :
    Calls Try.prog 7 #[.agg (pgV p), .int .u8 (kb.toNat : Int), .int .u8 (sb.toNat : Int)] w fun e w' => e = .returned (.bool true) ∧ Below w.heap.size w w' := by
  have HO := Lib.hid ho
  have HD := Lib.hid hd
  have HI0 := Lib.hid ((Hv.start w).alloc (pgV p) 24)
  simp only [List.nil_append] at HI0
  have kl := kb.toNat_lt
  have sl := sb.toNat_lt
  obtain ⟨P, hP⟩ : ∃ P, pgV p = P := ⟨_, rfl⟩
  obtain ⟨X, hX⟩ : ∃ X : ByteArray, ⟨p.d.toArray⟩ = X := ⟨_, rfl⟩
  have HP := Lib.hid hP
  have HPS := Lib.hid (show P.size = 6 by rw [← hP]; rfl)
  have HX5 := Lib.hid (show P[5]? = some (.string X) by rw [← hP, ← hX]; rfl)
  have HX2 := Lib.hid (show P[2]? = some (.int .i64 p.k) by rw [← hP]; rfl)
  obtain ⟨N, hN⟩ : ∃ N, p.d.length = N := ⟨_, rfl⟩
  have hs : X.size = N := by rw [← hX, ← hN]; simp [ByteArray.size]
  have HN := Lib.hid hN
  have hz := zero_pg
  have hzp := zero_api
  rw [hP] at HI0 ⊢
  have hbig' : ¬ 200 < N := by rw [← hN]; exact hbig
  have HR := Lib.hid hr
  clear hbig hr
  have HF := Lib.hid hf
  have HE1 := Lib.hid he1
  have HKE := Lib.hid hke
  rw [hN] at he2
  have HE2 := Lib.hid he2
  clear he2
  clear hf he1 hke
  clear ho hd hP hX hN
  go_enter Try.func7, Try.ntmps7
  go_wp2_with fail
  refine (awake_as _).mono ?_
  rintro e w1 ⟨rfl, hb⟩
  have HI1 := Lib.hid (HI0.out.next hb)
  clear hb
  have c5 : w1.cell? ⟨w.heap.size, 5, none⟩ = some (.string X) := by rw [cell_of_row _ _ _ _ _ _ (HI1.out.at (i := 0) rfl)]; exact HX5.out
  go_upto_region 3 with (first
    | (refine wpList_load_w rfl 24 _ rfl _ rfl (HI1.out.at (i := 0) rfl) Try.underlying24 rfl (info_rp HPS.out) ?_)
    | fail)
  go_wp2_with (first
    | (refine wpList_load_w rfl 24 _ rfl _ rfl (HI1.out.at (i := 0) rfl) Try.underlying24 rfl (info_rp HPS.out) ?_)
    | fail)
  rw [← HP.out]
  refine (of_any p _).mono ?_
  rintro e w2 ⟨rfl, hb⟩
  have HI2 := Lib.hid (HI1.out.next hb)
  clear hb
  go_wp2_with fail
  refine (lay_yes p _ HD.out HO.out HR.out).mono ?_
  rintro e w3 ⟨rfl, hb⟩
  have HI3 := Lib.hid (HI2.out.next hb)
  clear hb
  rw [HP.out]
  obtain ⟨l, hl⟩ : ∃ l, p.lay = l := ⟨_, rfl⟩
  have HEl := Lib.hid hl
  have HLl := Lib.hid (show l.length = 64 by rw [← hl]; exact Pv.lay_length HR.out)
  have HSl := Lib.hid (show (bl l).size = 64 by rw [bl_size, HLl.out])
  have HZl := Lib.hid (show (bl z64).size = 64 by rw [bl_size, z64_len])
  have H1l := Lib.hid (bl_one l)
  rw [hl]
  clear hl
  go_upto_region 4 with (first
    | (refine wpList_store_row rfl 27 _ _ rfl w3.heap.size (bl l) rfl rfl _ _ (heap_alloc_new _ _) (info_api HSl.out) (by first | rfl | rw [HZl.out, HSl.out]) H1l.out ?_)
    | fail)
  rw [World.setRow_alloc_new]
  have HI4 := Lib.hid (HI3.out.alloc (bl l) 27)
  have HGgb := Lib.hid (HI3.out.below.size)
  revert HI4 HGgb
  generalize World.alloc w3 _ = W4
  generalize w3.heap.size = gb
  intro HI4 HGgb
  simp only [List.nil_append, List.cons_append] at HI4
  have hA := HI4.out.at (i := 1) rfl
  have c12 : W4.cell? ⟨gb, 12, none⟩ = some (.int .u8 (B l 12)) := by rw [cell_of_row _ _ _ _ _ _ hA, bl_at _ 12 (by rw [HLl.out]; omega)]
  have f12 : W4.frozen? ⟨gb, 12, none⟩ = false := hA.frozen 12
  have hi5 := HI4.out.cell (i := 1) rfl 12 (.int .u8 (kb.toNat : Int))
  rw [bl_set] at hi5
  have hA5 := hi5.at (i := 1) rfl
  have c14 : (W4.setCell ⟨gb, 12, none⟩ (.int .u8 (kb.toNat : Int))).cell? ⟨gb, 14, none⟩ = some (.int .u8 (B (l.set 12 kb) 14)) := by rw [cell_of_row _ _ _ _ _ _ hA5, bl_at _ 14 (by rw [List.length_set, HLl.out]; omega)]
  have f14 : (W4.setCell ⟨gb, 12, none⟩ (.int .u8 (kb.toNat : Int))).frozen? ⟨gb, 14, none⟩ = false := hA5.frozen 14
  have hi6 := hi5.cell (i := 1) rfl 14 (.int .u8 (sb.toNat : Int))
  rw [bl_set] at hi6
  simp only [List.set_cons_succ, List.set_cons_zero] at hi6
  have HI6 := Lib.hid hi6
  clear hA hA5 hi5 hi6
  go_upto_region 7 with fail
  clear c12 f12 c14 f14
  revert HI6
  generalize World.setCell _ _ _ = W6
  intro HI6
  obtain ⟨b, hb⟩ : ∃ b, (l.set 12 kb).set 14 sb = b := ⟨_, rfl⟩
  have HBL := Lib.hid (show b.length = 64 by rw [← hb, List.length_set, List.length_set]; exact HLl.out)
  rw [hb] at HI6
  have HB := Lib.hid hb
  clear hb
  have hcv := conv_bl (HI6.out.at (i := 1) rfl) 4 60 60 (by rw [HBL.out]; omega)
  go_wp2_with fail
  refine (rsum_as b HBL.out _).mono ?_
  rintro e w7 ⟨rfl, hb⟩
  have HI7 := Lib.hid ((hb ▸ HI6.out : Hv w _ w7))
  clear hb
  go_wp2_with fail
  refine (refFour_any _ _ (moreS_lt _ _)).mono ?_
  rintro e w8 ⟨rfl, hb⟩
  have HI8 := Lib.hid (HI7.out.next hb)
  clear hb
  have hS0 : (⟨(fourL (moreS 0 (b.drop 4))).toArray⟩ : ByteArray).data.toList = fourL (moreS 0 (b.drop 4)) := rfl
  have hSs : (⟨(fourL (moreS 0 (b.drop 4))).toArray⟩ : ByteArray).size = 4 := rfl
  revert hS0 hSs
  generalize (⟨(fourL (moreS 0 (b.drop 4))).toArray⟩ : ByteArray) = SX
  intro hS0 hSs
  have HSX := Lib.hid hS0
  have HSS := Lib.hid hSs
  clear hS0 hcv
  go_wp2_with fail
  rw [← fixk_0 b] at HI8
  go_loopw [10] (fun i w' => ∃ k : Nat, k ≤ 4 ∧ i = .int .i64 k ∧ Hid (Hv w [(w.heap.size, P, 24), (gb, bl (fixk b k), 27)] w')) (fun i _ => 4 - (intOf i).toNat)
  case atStart => exact ⟨0, by omega, rfl, HI8⟩
  case round =>
    obtain ⟨k, hk, rfl, HK⟩ := hrel
    clear HI8
    by_cases hlt : k < 4
    · have hA := HK.out.at (i := 1) rfl
      have hkl := fixk_len HBL.out hk
      have c1 : wr.cell? ⟨gb, k, none⟩ = some (.int .u8 (B (fixk b k) k)) := by rw [cell_of_row _ _ _ _ _ _ hA, bl_at _ k (by rw [hkl]; omega)]
      have c2 : wr.frozen? ⟨gb, k, none⟩ = false := hA.frozen k
      have hkS : k < SX.size := by rw [HSS.out]; exact hlt
      have hn := HK.out.cell (i := 1) rfl k (.int .u8 ((((fourL (moreS 0 (b.drop 4))).getD k 0).toNat : Nat) : Int))
      rw [bl_set, fixk_put HBL.out hlt] at hn
      simp only [List.set_cons_succ, List.set_cons_zero] at hn
      have hYL : ((fourL (moreS 0 (b.drop 4))).getD k 0) = SX[k] := by
        rw [← HSX.out, gd_get _ _ (by rw [← size_list]; exact hkS)]; rfl
      rw [hYL] at hn
      have HNX := Lib.hid hn
      clear hn hYL hA HK
      go_wp2
      go_roundw
      case rel => exact ⟨k + 1, by omega, by go_num, HNX⟩
      case measure => simp [intOf]; omega
    · obtain rfl : k = 4 := by omega
      rw [fixk_4] at HK
      rw [show ((4 : Nat) : Int) = 4 from rfl]
      have HI9 := HK
      clear HK
      obtain ⟨M, hM⟩ : ∃ M, fixb b = M := ⟨_, rfl⟩
      have HM := Lib.hid hM
      have HML := Lib.hid (show M.length = 64 by rw [← hM]; exact fixb_len HBL.out)
      have HMS := Lib.hid (show SumOk M by rw [← hM]; exact fixb_sum b)
      have HMK := Lib.hid (show M = fixb ((p.lay.set 12 kb).set 14 sb) by rw [← hM, ← HB.out, ← HEl.out])
      rw [hM] at HI9
      clear hM
      have HBM := Lib.hid (show (bl M).size = 64 by rw [bl_size, HML.out])
      obtain ⟨T, hT⟩ : ∃ T, pgV Pv.zero = T := ⟨_, rfl⟩
      have HT := Lib.hid hT
      have HTS := Lib.hid (show T.size = 6 by rw [← hT]; rfl)
      have HT1 := Lib.hid (show T.all (·.oneCell') = true by rw [← hT]; exact pgV_one _)
      rw [hT] at hz
      clear hT
      rw [← HMK.out] at HF
      have hf := HF.out
      have hk12 : B M 12 = kb.toNat := by
        rw [HMK.out, fixb_B _ 12 (by omega)]
        unfold B
        rw [List.getD_eq_getElem?_getD, List.getElem?_set_ne (by omega), List.getElem?_set_self (by rw [Pv.lay_length HR.out]; omega)]
        rfl
      have hk14 : B M 14 = sb.toNat := by
        rw [HMK.out, fixb_B _ 14 (by omega)]
        unfold B
        rw [List.getD_eq_getElem?_getD, List.getElem?_set_self (by rw [List.length_set, Pv.lay_length HR.out]; omega)]
        rfl
      have hlen : (pg M).d.length = sb.toNat := by
        show ((M.drop 15).take (B M 14)).length = _
        have := hf.2.2.2.2.2.1
        rw [List.length_take, List.length_drop, HML.out, hk14]
        omega
      have HK12 := Lib.hid hk12
      have HLEN := Lib.hid hlen
      have hrd : ∀ w, Calls Try.prog 12 #[.agg (bl M)] w fun e w' => e = .returned (.tuple #[.agg (pgV (pg M)), .int .i64 0]) ∧ Below w.heap.size w w' := fun w => by
        have h := read_as M w HML.out
        rw [(rd_yes HMS.out HF.out).1, (rd_yes HMS.out HF.out).2] at h
        exact h
      obtain ⟨Q, hQ⟩ : ∃ Q, pgV (pg M) = Q := ⟨_, rfl⟩
      obtain ⟨Y, hY⟩ : ∃ Y : ByteArray, ⟨(pg M).d.toArray⟩ = Y := ⟨_, rfl⟩
      have HQS := Lib.hid (show Q.size = 6 by rw [← hQ]; rfl)
      have HQN := Lib.hid (show Q.all (·.oneCell') = true by rw [← hQ]; exact pgV_one _)
      have HQ2 := Lib.hid (show Q[2]? = some (.int .i64 (kb.toNat : Nat)) by rw [← hQ, ← hk12]; rfl)
      have HQ5 := Lib.hid (show Q[5]? = some (.string Y) by rw [← hQ, ← hY]; rfl)
      have HYS := Lib.hid (show Y.size = sb.toNat by rw [← hY, ← hlen]; simp [ByteArray.size])
      have h13 : B M 13 = 0 := hf.2.2.2.1 (by rw [hk12]; exact HKE.out)
      have HQ3 := Lib.hid (show Q[3]? = some (.bool false) by
        rw [← hQ]
        show some (Value.bool (decide (B M 13 % 2 = 1))) = _
        rw [h13]; rfl)
      have HQ4 := Lib.hid (show Q[4]? = some (.bool false) by
        rw [← hQ]
        show some (Value.bool (decide (2 ≤ B M 13))) = _
        rw [h13]; rfl)
      have HONE := Lib.hid (show (((kb.toNat : Nat) : Int) != 1) = false by rw [HKE.out]; rfl)
      clear h13
      have hpq : pEq (pg M) p = true := pEq_iff.2 (by
          have h1 : p.lay.set 12 kb = p.lay := set_same (by rw [Pv.lay_length HR.out]; omega) (by have := Pv.lay_12 HR.out; have := HE1.out; omega)
          have h2 : p.lay.set 14 sb = p.lay := set_same (by rw [Pv.lay_length HR.out]; omega) (by have := Pv.lay_14 HR.out; have := HE2.out; have := HN.out; omega)
          rw [HMK.out, h1, h2, fixb_lay, pg_lay HR.out HO.out])
      have HEQ := Lib.hid (show ∀ w, (Op.equalIn 10000 24 (.agg Q) (.agg P)).run Try.prog w = .ok true w from fun w => by rw [← hQ, ← HP.out, rpages_is, hpq])
      have hpl := fun w => plain_any (pg M) w
      simp only [hQ] at hrd hpl
      have HRD := Lib.hid hrd
      have HPL := Lib.hid hpl
      clear hrd hpl hQ hY hpq hk12 hk14 hlen hf
      go_wp2_with (first
        | (refine wpList_load_w rfl 27 _ rfl _ rfl (HI9.out.at (i := 1) rfl) Try.underlying27 rfl (info_api HBM.out) ?_)
        | fail)
      refine (HRD.out _).mono ?_
      rintro e w10 ⟨rfl, hb⟩
      have HI10 := Lib.hid (HI9.out.next hb)
      clear hb
      go_upto_region 13 with (first
        | (refine wpList_store_row rfl 31 _ _ rfl w10.heap.size Q rfl rfl _ _ (heap_alloc_new _ _) (info_pg HQS.out) (by rw [HQS.out, HTS.out]) HQN.out ?_)
        | fail)
      rw [World.setRow_alloc_new]
      have HI11 := Lib.hid (HI10.out.alloc Q 31)
      have HGgp := Lib.hid (HI10.out.below.size)
      revert HI11 HGgp
      generalize World.alloc w10 _ = W11
      generalize w10.heap.size = gp
      intro HI11 HGgp
      simp only [List.nil_append, List.cons_append] at HI11
      have c2 : W11.cell? ⟨w.heap.size, 2, none⟩ = some (.int .i64 p.k) := by rw [cell_of_row _ _ _ _ _ _ (HI11.out.at (i := 0) rfl)]; exact HX2.out
      have c5' : W11.cell? ⟨w.heap.size, 5, none⟩ = some (.string X) := by rw [cell_of_row _ _ _ _ _ _ (HI11.out.at (i := 0) rfl)]; exact HX5.out
      have e1 : (((kb.toNat : Nat) : Int) == p.k) = true := beq_iff_eq.2 HE1.out
      have e2 : (((sb.toNat : Nat) : Int) == ((N : Nat) : Int)) = true := beq_iff_eq.2 (by have := HE2.out; omega)
      go_wp2_with fail
      refine mf_start (Hv w [(w.heap.size, P, 24), (gb, bl M, 27), (gp, Q, 31)]) (fun _ => false) HI11.out.drew fun hS => ?_
      refine mf_yield (i := 0) (d := 70) (.bool true) rfl rfl (by kernel_rfl) (by kernel_rfl) (by kernel_rfl) (by kernel_rfl) hS (y_run (by rfl) fun _ => by rfl) ?_
      simp only [Act.put, List.setIfInBounds_toArray, List.set_cons_zero, List.set_cons_succ]
      refine mf_yield (i := 1) (d := 71) (.agg Q) rfl rfl (by kernel_rfl) (by kernel_rfl) (by kernel_rfl) (by kernel_rfl) hS (y_load_w (by rfl) rfl rfl (fun w' h => h.at (i := 2) rfl) Try.underlying31 rfl (info_pg HQS.out)) ?_
      simp only [Act.put, List.setIfInBounds_toArray, List.set_cons_zero, List.set_cons_succ]
      refine mf_yield (i := 3) (d := 73) (.agg P) rfl rfl (by kernel_rfl) (by kernel_rfl) (by kernel_rfl) (by kernel_rfl) hS (y_load_w (by rfl) rfl rfl (fun w' h => h.at (i := 0) rfl) Try.underlying24 rfl (info_rp HPS.out)) ?_
      simp only [Act.put, List.setIfInBounds_toArray, List.set_cons_zero, List.set_cons_succ]
      refine mf_ready [2] (by kernel_rfl) (by simp) (af_call (i := 2) (d := 72) (R := fun v w' => v = .agg Q ∧ Hv w [(w.heap.size, P, 24), (gb, bl M, 27), (gp, Q, 31)] w') #[.agg Q] rfl rfl (by rfl) rfl enter_plain (by kernel_rfl) ((HPL.out _).mono fun e w' h => ⟨_, h.1, rfl, hS.next h.2⟩) (fun v w' h => h.2) ?_ AllReadyF.nil)
      rintro v v2 ⟨rfl, h10⟩ hS10
      clear hS h10
      have hS := hS10
      clear hS10
      simp only [Act.put, List.setIfInBounds_toArray, List.set_cons_zero, List.set_cons_succ]
      refine mf_yield (i := 4) (d := 74) (.bool true) rfl rfl (by kernel_rfl) (by kernel_rfl) (by kernel_rfl) (by kernel_rfl) hS (y_eql (b := true) (by rfl) rfl rfl rfl (by kernel_rfl) HEQ.out) ?_
      simp only [Act.put, List.setIfInBounds_toArray, List.set_cons_zero, List.set_cons_succ]
      refine mf_yield (i := 5) (d := 75) (.bool true) rfl rfl (by kernel_rfl) (by kernel_rfl) (by kernel_rfl) (by kernel_rfl) hS (y_eqlB (by rfl) rfl rfl rfl (by rfl)) ?_
      simp only [Act.put, List.setIfInBounds_toArray, List.set_cons_zero, List.set_cons_succ]
      refine mf_yield (i := 6) (d := 76) (.bool true) rfl rfl (by kernel_rfl) (by kernel_rfl) (by kernel_rfl) (by kernel_rfl) hS (y_run (by rfl) fun _ => by rfl) ?_
      simp only [Act.put, List.setIfInBounds_toArray, List.set_cons_zero, List.set_cons_succ]
      refine mf_yield (i := 7) (d := 77) (.pointer (some ⟨gp, 2, none⟩)) rfl rfl (by kernel_rfl) (by kernel_rfl) (by kernel_rfl) (by kernel_rfl) hS (y_fieldO (by rfl) rfl rfl (fldp 2 (by omega)) (Nat.zero_add _)) ?_
      simp only [Act.put, List.setIfInBounds_toArray, List.set_cons_zero, List.set_cons_succ]
      refine mf_yield (i := 8) (d := 78) (.int .i64 ((kb.toNat : Nat))) rfl rfl (by kernel_rfl) (by kernel_rfl) (by kernel_rfl) (by kernel_rfl) hS (y_cell1 (by rfl) rfl rfl Try.underlying3 rfl (fun w h => (cell_of_row _ _ _ _ _ _ (h.at (i := 2) rfl)).trans HQ2.out)) ?_
      simp only [Act.put, List.setIfInBounds_toArray, List.set_cons_zero, List.set_cons_succ]
      refine mf_yield (i := 9) (d := 79) (.bool false) rfl rfl (by kernel_rfl) (by kernel_rfl) (by kernel_rfl) (by kernel_rfl) hS (y_neqK (by rfl) rfl Try.underlying3 rfl rfl HONE.out) ?_
      simp only [Act.put, List.setIfInBounds_toArray, List.set_cons_zero, List.set_cons_succ]
      refine mf_yield (i := 10) (d := 80) (.bool false) rfl rfl (by kernel_rfl) (by kernel_rfl) (by kernel_rfl) (by kernel_rfl) hS (y_run (by rfl) fun _ => by rfl) ?_
      simp only [Act.put, List.setIfInBounds_toArray, List.set_cons_zero, List.set_cons_succ]
      refine mf_yield (i := 11) (d := 81) (.pointer (some ⟨gp, 3, none⟩)) rfl rfl (by kernel_rfl) (by kernel_rfl) (by kernel_rfl) (by kernel_rfl) hS (y_fieldO (by rfl) rfl rfl (fldp 3 (by omega)) (Nat.zero_add _)) ?_
      simp only [Act.put, List.setIfInBounds_toArray, List.set_cons_zero, List.set_cons_succ]
      refine mf_yield (i := 12) (d := 82) (.bool false) rfl rfl (by kernel_rfl) (by kernel_rfl) (by kernel_rfl) (by kernel_rfl) hS (y_cell1 (by rfl) rfl rfl Try.underlying4 rfl (fun w h => (cell_of_row _ _ _ _ _ _ (h.at (i := 2) rfl)).trans HQ3.out)) ?_
      simp only [Act.put, List.setIfInBounds_toArray, List.set_cons_zero, List.set_cons_succ]
      refine mf_yield (i := 13) (d := 83) (.bool true) rfl rfl (by kernel_rfl) (by kernel_rfl) (by kernel_rfl) (by kernel_rfl) hS (y_not (b := false) (by rfl) rfl rfl) ?_
      simp only [Act.put, List.setIfInBounds_toArray, List.set_cons_zero, List.set_cons_succ]
      refine mf_yield (i := 14) (d := 84) (.bool true) rfl rfl (by kernel_rfl) (by kernel_rfl) (by kernel_rfl) (by kernel_rfl) hS (y_run (by rfl) fun _ => by rfl) ?_
      simp only [Act.put, List.setIfInBounds_toArray, List.set_cons_zero, List.set_cons_succ]
      refine mf_yield (i := 15) (d := 85) (.pointer (some ⟨gp, 4, none⟩)) rfl rfl (by kernel_rfl) (by kernel_rfl) (by kernel_rfl) (by kernel_rfl) hS (y_fieldO (by rfl) rfl rfl (fldp 4 (by omega)) (Nat.zero_add _)) ?_
      simp only [Act.put, List.setIfInBounds_toArray, List.set_cons_zero, List.set_cons_succ]
      refine mf_yield (i := 16) (d := 86) (.bool false) rfl rfl (by kernel_rfl) (by kernel_rfl) (by kernel_rfl) (by kernel_rfl) hS (y_cell1 (by rfl) rfl rfl Try.underlying4 rfl (fun w h => (cell_of_row _ _ _ _ _ _ (h.at (i := 2) rfl)).trans HQ4.out)) ?_
      simp only [Act.put, List.setIfInBounds_toArray, List.set_cons_zero, List.set_cons_succ]
      refine mf_yield (i := 17) (d := 87) (.bool true) rfl rfl (by kernel_rfl) (by kernel_rfl) (by kernel_rfl) (by kernel_rfl) hS (y_not (b := false) (by rfl) rfl rfl) ?_
      simp only [Act.put, List.setIfInBounds_toArray, List.set_cons_zero, List.set_cons_succ]
      refine mf_yield (i := 18) (d := 88) (.bool true) rfl rfl (by kernel_rfl) (by kernel_rfl) (by kernel_rfl) (by kernel_rfl) hS (y_run (by rfl) fun _ => by rfl) ?_
      simp only [Act.put, List.setIfInBounds_toArray, List.set_cons_zero, List.set_cons_succ]
      refine mf_yield (i := 19) (d := 89) (.bool true) rfl rfl (by kernel_rfl) (by kernel_rfl) (by kernel_rfl) (by kernel_rfl) hS (y_run (by rfl) fun _ => by rfl) ?_
      simp only [Act.put, List.setIfInBounds_toArray, List.set_cons_zero, List.set_cons_succ]
      refine mf_yield (i := 20) (d := 90) (.bool true) rfl rfl (by kernel_rfl) (by kernel_rfl) (by kernel_rfl) (by kernel_rfl) hS (y_run (by rfl) fun _ => by rfl) ?_
      simp only [Act.put, List.setIfInBounds_toArray, List.set_cons_zero, List.set_cons_succ]
      refine mf_yield (i := 21) (d := 91) (.bool true) rfl rfl (by kernel_rfl) (by kernel_rfl) (by kernel_rfl) (by kernel_rfl) hS (y_run (by rfl) fun _ => by rfl) ?_
      simp only [Act.put, List.setIfInBounds_toArray, List.set_cons_zero, List.set_cons_succ]
      refine mf_yield (i := 22) (d := 92) (.pointer (some ⟨gp, 2, none⟩)) rfl rfl (by kernel_rfl) (by kernel_rfl) (by kernel_rfl) (by kernel_rfl) hS (y_fieldO (by rfl) rfl rfl (fldp 2 (by omega)) (Nat.zero_add _)) ?_
      simp only [Act.put, List.setIfInBounds_toArray, List.set_cons_zero, List.set_cons_succ]
      refine mf_yield (i := 23) (d := 93) (.int .i64 ((kb.toNat : Nat))) rfl rfl (by kernel_rfl) (by kernel_rfl) (by kernel_rfl) (by kernel_rfl) hS (y_cell1 (by rfl) rfl rfl Try.underlying3 rfl (fun w h => (cell_of_row _ _ _ _ _ _ (h.at (i := 2) rfl)).trans HQ2.out)) ?_
      simp only [Act.put, List.setIfInBounds_toArray, List.set_cons_zero, List.set_cons_succ]
      refine mf_yield (i := 24) (d := 94) (.int .u8 ((kb.toNat : Nat))) rfl rfl (by kernel_rfl) (by kernel_rfl) (by kernel_rfl) (by kernel_rfl) hS (y_run (by rfl) fun _ => by rfl) ?_
      simp only [Act.put, List.setIfInBounds_toArray, List.set_cons_zero, List.set_cons_succ]
      refine mf_yield (i := 25) (d := 95) (.int .i64 ((kb.toNat : Nat))) rfl rfl (by kernel_rfl) (by kernel_rfl) (by kernel_rfl) (by kernel_rfl) hS (y_int8 (by rfl) rfl rfl kl) ?_
      simp only [Act.put, List.setIfInBounds_toArray, List.set_cons_zero, List.set_cons_succ]
      refine mf_yield (i := 26) (d := 96) (.bool true) rfl rfl (by kernel_rfl) (by kernel_rfl) (by kernel_rfl) (by kernel_rfl) hS (y_eqlK (by rfl) rfl Try.underlying3 rfl rfl (by simp)) ?_
      simp only [Act.put, List.setIfInBounds_toArray, List.set_cons_zero, List.set_cons_succ]
      refine mf_yield (i := 27) (d := 97) (.bool true) rfl rfl (by kernel_rfl) (by kernel_rfl) (by kernel_rfl) (by kernel_rfl) hS (y_run (by rfl) fun _ => by rfl) ?_
      simp only [Act.put, List.setIfInBounds_toArray, List.set_cons_zero, List.set_cons_succ]
      refine mf_yield (i := 28) (d := 98) (.bool true) rfl rfl (by kernel_rfl) (by kernel_rfl) (by kernel_rfl) (by kernel_rfl) hS (y_run (by rfl) fun _ => by rfl) ?_
      simp only [Act.put, List.setIfInBounds_toArray, List.set_cons_zero, List.set_cons_succ]
      refine mf_yield (i := 29) (d := 99) (.pointer (some ⟨gp, 5, none⟩)) rfl rfl (by kernel_rfl) (by kernel_rfl) (by kernel_rfl) (by kernel_rfl) hS (y_fieldO (by rfl) rfl rfl (fldp 5 (by omega)) (Nat.zero_add _)) ?_
      simp only [Act.put, List.setIfInBounds_toArray, List.set_cons_zero, List.set_cons_succ]
      refine mf_yield (i := 30) (d := 100) (.string Y) rfl rfl (by kernel_rfl) (by kernel_rfl) (by kernel_rfl) (by kernel_rfl) hS (y_cell1 (by rfl) rfl rfl Try.underlying9 rfl (fun w h => (cell_of_row _ _ _ _ _ _ (h.at (i := 2) rfl)).trans HQ5.out)) ?_
      simp only [Act.put, List.setIfInBounds_toArray, List.set_cons_zero, List.set_cons_succ]
      refine mf_yield (i := 31) (d := 101) (.int .i64 ((sb.toNat : Nat))) rfl rfl (by kernel_rfl) (by kernel_rfl) (by kernel_rfl) (by kernel_rfl) hS (y_lenS (by rfl) rfl rfl HYS.out) ?_
      simp only [Act.put, List.setIfInBounds_toArray, List.set_cons_zero, List.set_cons_succ]
      refine mf_yield (i := 32) (d := 102) (.int .u8 ((sb.toNat : Nat))) rfl rfl (by kernel_rfl) (by kernel_rfl) (by kernel_rfl) (by kernel_rfl) hS (y_run (by rfl) fun _ => by rfl) ?_
      simp only [Act.put, List.setIfInBounds_toArray, List.set_cons_zero, List.set_cons_succ]
      refine mf_yield (i := 33) (d := 103) (.int .i64 ((sb.toNat : Nat))) rfl rfl (by kernel_rfl) (by kernel_rfl) (by kernel_rfl) (by kernel_rfl) hS (y_int8 (by rfl) rfl rfl sl) ?_
      simp only [Act.put, List.setIfInBounds_toArray, List.set_cons_zero, List.set_cons_succ]
      refine mf_yield (i := 34) (d := 104) (.bool true) rfl rfl (by kernel_rfl) (by kernel_rfl) (by kernel_rfl) (by kernel_rfl) hS (y_eqlK (by rfl) rfl Try.underlying3 rfl rfl (by simp)) ?_
      simp only [Act.put, List.setIfInBounds_toArray, List.set_cons_zero, List.set_cons_succ]
      refine mf_yield (i := 35) (d := 105) (.bool true) rfl rfl (by kernel_rfl) (by kernel_rfl) (by kernel_rfl) (by kernel_rfl) hS (y_run (by rfl) fun _ => by rfl) ?_
      simp only [Act.put, List.setIfInBounds_toArray, List.set_cons_zero, List.set_cons_succ]
      refine mf_yield (i := 36) (d := 6) (.bool true) rfl rfl (by kernel_rfl) (by kernel_rfl) (by kernel_rfl) (by kernel_rfl) hS (y_run (by rfl) fun _ => by rfl) ?_
      simp only [Act.put, List.setIfInBounds_toArray, List.set_cons_zero, List.set_cons_succ]
      refine mf_done (by kernel_rfl) ?_
      have HBB := Lib.hid hS.below
      clear hS
      go_wp2_with fail
      go_ret
      exact ⟨rfl, HBB.out⟩

set_option maxHeartbeats 4000000 in
theorem heads_tt2 (p : Pv) (kb sb : UInt8) (w : World) (ho : p.Ok) (hd : p.d.length ≤ maxLen) (hbig : ¬ 200 < p.d.length) (hr : p.right) (hf : FormOk (fixb ((p.lay.set 12 kb).set 14 sb))) (he1 : (kb.toNat : Int) = p.k) (he2 : sb.toNat = p.d.length) (hke : kb.toNat ≠ 1) :
    Calls Try.prog 7 #[.agg (pgV p), .int .u8 (kb.toNat : Int), .int .u8 (sb.toNat : Int)] w fun e w' => e = .returned (.bool true) ∧ Below w.heap.size w w' := by
  have HO := Lib.hid ho
  have HD := Lib.hid hd
  have HI0 := Lib.hid ((Hv.start w).alloc (pgV p) 24)
  simp only [List.nil_append] at HI0
  have kl := kb.toNat_lt
  have sl := sb.toNat_lt
  obtain ⟨P, hP⟩ : ∃ P, pgV p = P := ⟨_, rfl⟩
  obtain ⟨X, hX⟩ : ∃ X : ByteArray, ⟨p.d.toArray⟩ = X := ⟨_, rfl⟩
  have HP := Lib.hid hP
  have HPS := Lib.hid (show P.size = 6 by rw [← hP]; rfl)
  have HX5 := Lib.hid (show P[5]? = some (.string X) by rw [← hP, ← hX]; rfl)
  have HX2 := Lib.hid (show P[2]? = some (.int .i64 p.k) by rw [← hP]; rfl)
  obtain ⟨N, hN⟩ : ∃ N, p.d.length = N := ⟨_, rfl⟩
  have hs : X.size = N := by rw [← hX, ← hN]; simp [ByteArray.size]
  have HN := Lib.hid hN
  have hz := zero_pg
  have hzp := zero_api
  rw [hP] at HI0 ⊢
  have hbig' : ¬ 200 < N := by rw [← hN]; exact hbig
  have HR := Lib.hid hr
  clear hbig hr
  have HF := Lib.hid hf
  have HE1 := Lib.hid he1
  have HKE := Lib.hid hke
  rw [hN] at he2
  have HE2 := Lib.hid he2
  clear he2
  clear hf he1 hke
  clear ho hd hP hX hN
  go_enter Try.func7, Try.ntmps7
  go_wp2_with fail
  refine (awake_as _).mono ?_
  rintro e w1 ⟨rfl, hb⟩
  have HI1 := Lib.hid (HI0.out.next hb)
  clear hb
  have c5 : w1.cell? ⟨w.heap.size, 5, none⟩ = some (.string X) := by rw [cell_of_row _ _ _ _ _ _ (HI1.out.at (i := 0) rfl)]; exact HX5.out
  go_upto_region 3 with (first
    | (refine wpList_load_w rfl 24 _ rfl _ rfl (HI1.out.at (i := 0) rfl) Try.underlying24 rfl (info_rp HPS.out) ?_)
    | fail)
  go_wp2_with (first
    | (refine wpList_load_w rfl 24 _ rfl _ rfl (HI1.out.at (i := 0) rfl) Try.underlying24 rfl (info_rp HPS.out) ?_)
    | fail)
  rw [← HP.out]
  refine (of_any p _).mono ?_
  rintro e w2 ⟨rfl, hb⟩
  have HI2 := Lib.hid (HI1.out.next hb)
  clear hb
  go_wp2_with fail
  refine (lay_yes p _ HD.out HO.out HR.out).mono ?_
  rintro e w3 ⟨rfl, hb⟩
  have HI3 := Lib.hid (HI2.out.next hb)
  clear hb
  rw [HP.out]
  obtain ⟨l, hl⟩ : ∃ l, p.lay = l := ⟨_, rfl⟩
  have HEl := Lib.hid hl
  have HLl := Lib.hid (show l.length = 64 by rw [← hl]; exact Pv.lay_length HR.out)
  have HSl := Lib.hid (show (bl l).size = 64 by rw [bl_size, HLl.out])
  have HZl := Lib.hid (show (bl z64).size = 64 by rw [bl_size, z64_len])
  have H1l := Lib.hid (bl_one l)
  rw [hl]
  clear hl
  go_upto_region 4 with (first
    | (refine wpList_store_row rfl 27 _ _ rfl w3.heap.size (bl l) rfl rfl _ _ (heap_alloc_new _ _) (info_api HSl.out) (by first | rfl | rw [HZl.out, HSl.out]) H1l.out ?_)
    | fail)
  rw [World.setRow_alloc_new]
  have HI4 := Lib.hid (HI3.out.alloc (bl l) 27)
  have HGgb := Lib.hid (HI3.out.below.size)
  revert HI4 HGgb
  generalize World.alloc w3 _ = W4
  generalize w3.heap.size = gb
  intro HI4 HGgb
  simp only [List.nil_append, List.cons_append] at HI4
  have hA := HI4.out.at (i := 1) rfl
  have c12 : W4.cell? ⟨gb, 12, none⟩ = some (.int .u8 (B l 12)) := by rw [cell_of_row _ _ _ _ _ _ hA, bl_at _ 12 (by rw [HLl.out]; omega)]
  have f12 : W4.frozen? ⟨gb, 12, none⟩ = false := hA.frozen 12
  have hi5 := HI4.out.cell (i := 1) rfl 12 (.int .u8 (kb.toNat : Int))
  rw [bl_set] at hi5
  have hA5 := hi5.at (i := 1) rfl
  have c14 : (W4.setCell ⟨gb, 12, none⟩ (.int .u8 (kb.toNat : Int))).cell? ⟨gb, 14, none⟩ = some (.int .u8 (B (l.set 12 kb) 14)) := by rw [cell_of_row _ _ _ _ _ _ hA5, bl_at _ 14 (by rw [List.length_set, HLl.out]; omega)]
  have f14 : (W4.setCell ⟨gb, 12, none⟩ (.int .u8 (kb.toNat : Int))).frozen? ⟨gb, 14, none⟩ = false := hA5.frozen 14
  have hi6 := hi5.cell (i := 1) rfl 14 (.int .u8 (sb.toNat : Int))
  rw [bl_set] at hi6
  simp only [List.set_cons_succ, List.set_cons_zero] at hi6
  have HI6 := Lib.hid hi6
  clear hA hA5 hi5 hi6
  go_upto_region 7 with fail
  clear c12 f12 c14 f14
  revert HI6
  generalize World.setCell _ _ _ = W6
  intro HI6
  obtain ⟨b, hb⟩ : ∃ b, (l.set 12 kb).set 14 sb = b := ⟨_, rfl⟩
  have HBL := Lib.hid (show b.length = 64 by rw [← hb, List.length_set, List.length_set]; exact HLl.out)
  rw [hb] at HI6
  have HB := Lib.hid hb
  clear hb
  have hcv := conv_bl (HI6.out.at (i := 1) rfl) 4 60 60 (by rw [HBL.out]; omega)
  go_wp2_with fail
  refine (rsum_as b HBL.out _).mono ?_
  rintro e w7 ⟨rfl, hb⟩
  have HI7 := Lib.hid ((hb ▸ HI6.out : Hv w _ w7))
  clear hb
  go_wp2_with fail
  refine (refFour_any _ _ (moreS_lt _ _)).mono ?_
  rintro e w8 ⟨rfl, hb⟩
  have HI8 := Lib.hid (HI7.out.next hb)
  clear hb
  have hS0 : (⟨(fourL (moreS 0 (b.drop 4))).toArray⟩ : ByteArray).data.toList = fourL (moreS 0 (b.drop 4)) := rfl
  have hSs : (⟨(fourL (moreS 0 (b.drop 4))).toArray⟩ : ByteArray).size = 4 := rfl
  revert hS0 hSs
  generalize (⟨(fourL (moreS 0 (b.drop 4))).toArray⟩ : ByteArray) = SX
  intro hS0 hSs
  have HSX := Lib.hid hS0
  have HSS := Lib.hid hSs
  clear hS0 hcv
  go_wp2_with fail
  rw [← fixk_0 b] at HI8
  go_loopw [10] (fun i w' => ∃ k : Nat, k ≤ 4 ∧ i = .int .i64 k ∧ Hid (Hv w [(w.heap.size, P, 24), (gb, bl (fixk b k), 27)] w')) (fun i _ => 4 - (intOf i).toNat)
  case atStart => exact ⟨0, by omega, rfl, HI8⟩
  case round =>
    obtain ⟨k, hk, rfl, HK⟩ := hrel
    clear HI8
    by_cases hlt : k < 4
    · have hA := HK.out.at (i := 1) rfl
      have hkl := fixk_len HBL.out hk
      have c1 : wr.cell? ⟨gb, k, none⟩ = some (.int .u8 (B (fixk b k) k)) := by rw [cell_of_row _ _ _ _ _ _ hA, bl_at _ k (by rw [hkl]; omega)]
      have c2 : wr.frozen? ⟨gb, k, none⟩ = false := hA.frozen k
      have hkS : k < SX.size := by rw [HSS.out]; exact hlt
      have hn := HK.out.cell (i := 1) rfl k (.int .u8 ((((fourL (moreS 0 (b.drop 4))).getD k 0).toNat : Nat) : Int))
      rw [bl_set, fixk_put HBL.out hlt] at hn
      simp only [List.set_cons_succ, List.set_cons_zero] at hn
      have hYL : ((fourL (moreS 0 (b.drop 4))).getD k 0) = SX[k] := by
        rw [← HSX.out, gd_get _ _ (by rw [← size_list]; exact hkS)]; rfl
      rw [hYL] at hn
      have HNX := Lib.hid hn
      clear hn hYL hA HK
      go_wp2
      go_roundw
      case rel => exact ⟨k + 1, by omega, by go_num, HNX⟩
      case measure => simp [intOf]; omega
    · obtain rfl : k = 4 := by omega
      rw [fixk_4] at HK
      rw [show ((4 : Nat) : Int) = 4 from rfl]
      have HI9 := HK
      clear HK
      obtain ⟨M, hM⟩ : ∃ M, fixb b = M := ⟨_, rfl⟩
      have HM := Lib.hid hM
      have HML := Lib.hid (show M.length = 64 by rw [← hM]; exact fixb_len HBL.out)
      have HMS := Lib.hid (show SumOk M by rw [← hM]; exact fixb_sum b)
      have HMK := Lib.hid (show M = fixb ((p.lay.set 12 kb).set 14 sb) by rw [← hM, ← HB.out, ← HEl.out])
      rw [hM] at HI9
      clear hM
      have HBM := Lib.hid (show (bl M).size = 64 by rw [bl_size, HML.out])
      obtain ⟨T, hT⟩ : ∃ T, pgV Pv.zero = T := ⟨_, rfl⟩
      have HT := Lib.hid hT
      have HTS := Lib.hid (show T.size = 6 by rw [← hT]; rfl)
      have HT1 := Lib.hid (show T.all (·.oneCell') = true by rw [← hT]; exact pgV_one _)
      rw [hT] at hz
      clear hT
      rw [← HMK.out] at HF
      have hf := HF.out
      have hk12 : B M 12 = kb.toNat := by
        rw [HMK.out, fixb_B _ 12 (by omega)]
        unfold B
        rw [List.getD_eq_getElem?_getD, List.getElem?_set_ne (by omega), List.getElem?_set_self (by rw [Pv.lay_length HR.out]; omega)]
        rfl
      have hk14 : B M 14 = sb.toNat := by
        rw [HMK.out, fixb_B _ 14 (by omega)]
        unfold B
        rw [List.getD_eq_getElem?_getD, List.getElem?_set_self (by rw [List.length_set, Pv.lay_length HR.out]; omega)]
        rfl
      have hlen : (pg M).d.length = sb.toNat := by
        show ((M.drop 15).take (B M 14)).length = _
        have := hf.2.2.2.2.2.1
        rw [List.length_take, List.length_drop, HML.out, hk14]
        omega
      have HK12 := Lib.hid hk12
      have HLEN := Lib.hid hlen
      have hrd : ∀ w, Calls Try.prog 12 #[.agg (bl M)] w fun e w' => e = .returned (.tuple #[.agg (pgV (pg M)), .int .i64 0]) ∧ Below w.heap.size w w' := fun w => by
        have h := read_as M w HML.out
        rw [(rd_yes HMS.out HF.out).1, (rd_yes HMS.out HF.out).2] at h
        exact h
      obtain ⟨Q, hQ⟩ : ∃ Q, pgV (pg M) = Q := ⟨_, rfl⟩
      obtain ⟨Y, hY⟩ : ∃ Y : ByteArray, ⟨(pg M).d.toArray⟩ = Y := ⟨_, rfl⟩
      have HQS := Lib.hid (show Q.size = 6 by rw [← hQ]; rfl)
      have HQN := Lib.hid (show Q.all (·.oneCell') = true by rw [← hQ]; exact pgV_one _)
      have HQ2 := Lib.hid (show Q[2]? = some (.int .i64 (kb.toNat : Nat)) by rw [← hQ, ← hk12]; rfl)
      have HQ5 := Lib.hid (show Q[5]? = some (.string Y) by rw [← hQ, ← hY]; rfl)
      have HYS := Lib.hid (show Y.size = sb.toNat by rw [← hY, ← hlen]; simp [ByteArray.size])
      have HONE := Lib.hid (show (((kb.toNat : Nat) : Int) != 1) = true by have := HKE.out; rw [bne_iff_ne]; omega)
      have hpq : pEq (pg M) p = true := pEq_iff.2 (by
          have h1 : p.lay.set 12 kb = p.lay := set_same (by rw [Pv.lay_length HR.out]; omega) (by have := Pv.lay_12 HR.out; have := HE1.out; omega)
          have h2 : p.lay.set 14 sb = p.lay := set_same (by rw [Pv.lay_length HR.out]; omega) (by have := Pv.lay_14 HR.out; have := HE2.out; have := HN.out; omega)
          rw [HMK.out, h1, h2, fixb_lay, pg_lay HR.out HO.out])
      have HEQ := Lib.hid (show ∀ w, (Op.equalIn 10000 24 (.agg Q) (.agg P)).run Try.prog w = .ok true w from fun w => by rw [← hQ, ← HP.out, rpages_is, hpq])
      have hpl := fun w => plain_any (pg M) w
      simp only [hQ] at hrd hpl
      have HRD := Lib.hid hrd
      have HPL := Lib.hid hpl
      clear hrd hpl hQ hY hpq hk12 hk14 hlen hf
      go_wp2_with (first
        | (refine wpList_load_w rfl 27 _ rfl _ rfl (HI9.out.at (i := 1) rfl) Try.underlying27 rfl (info_api HBM.out) ?_)
        | fail)
      refine (HRD.out _).mono ?_
      rintro e w10 ⟨rfl, hb⟩
      have HI10 := Lib.hid (HI9.out.next hb)
      clear hb
      go_upto_region 13 with (first
        | (refine wpList_store_row rfl 31 _ _ rfl w10.heap.size Q rfl rfl _ _ (heap_alloc_new _ _) (info_pg HQS.out) (by rw [HQS.out, HTS.out]) HQN.out ?_)
        | fail)
      rw [World.setRow_alloc_new]
      have HI11 := Lib.hid (HI10.out.alloc Q 31)
      have HGgp := Lib.hid (HI10.out.below.size)
      revert HI11 HGgp
      generalize World.alloc w10 _ = W11
      generalize w10.heap.size = gp
      intro HI11 HGgp
      simp only [List.nil_append, List.cons_append] at HI11
      have c2 : W11.cell? ⟨w.heap.size, 2, none⟩ = some (.int .i64 p.k) := by rw [cell_of_row _ _ _ _ _ _ (HI11.out.at (i := 0) rfl)]; exact HX2.out
      have c5' : W11.cell? ⟨w.heap.size, 5, none⟩ = some (.string X) := by rw [cell_of_row _ _ _ _ _ _ (HI11.out.at (i := 0) rfl)]; exact HX5.out
      have e1 : (((kb.toNat : Nat) : Int) == p.k) = true := beq_iff_eq.2 HE1.out
      have e2 : (((sb.toNat : Nat) : Int) == ((N : Nat) : Int)) = true := beq_iff_eq.2 (by have := HE2.out; omega)
      go_wp2_with fail
      refine mf_start (Hv w [(w.heap.size, P, 24), (gb, bl M, 27), (gp, Q, 31)]) (fun _ => false) HI11.out.drew fun hS => ?_
      refine mf_yield (i := 0) (d := 70) (.bool true) rfl rfl (by kernel_rfl) (by kernel_rfl) (by kernel_rfl) (by kernel_rfl) hS (y_run (by rfl) fun _ => by rfl) ?_
      simp only [Act.put, List.setIfInBounds_toArray, List.set_cons_zero, List.set_cons_succ]
      refine mf_yield (i := 1) (d := 71) (.agg Q) rfl rfl (by kernel_rfl) (by kernel_rfl) (by kernel_rfl) (by kernel_rfl) hS (y_load_w (by rfl) rfl rfl (fun w' h => h.at (i := 2) rfl) Try.underlying31 rfl (info_pg HQS.out)) ?_
      simp only [Act.put, List.setIfInBounds_toArray, List.set_cons_zero, List.set_cons_succ]
      refine mf_yield (i := 3) (d := 73) (.agg P) rfl rfl (by kernel_rfl) (by kernel_rfl) (by kernel_rfl) (by kernel_rfl) hS (y_load_w (by rfl) rfl rfl (fun w' h => h.at (i := 0) rfl) Try.underlying24 rfl (info_rp HPS.out)) ?_
      simp only [Act.put, List.setIfInBounds_toArray, List.set_cons_zero, List.set_cons_succ]
      refine mf_ready [2] (by kernel_rfl) (by simp) (af_call (i := 2) (d := 72) (R := fun v w' => v = .agg Q ∧ Hv w [(w.heap.size, P, 24), (gb, bl M, 27), (gp, Q, 31)] w') #[.agg Q] rfl rfl (by rfl) rfl enter_plain (by kernel_rfl) ((HPL.out _).mono fun e w' h => ⟨_, h.1, rfl, hS.next h.2⟩) (fun v w' h => h.2) ?_ AllReadyF.nil)
      rintro v v2 ⟨rfl, h10⟩ hS10
      clear hS h10
      have hS := hS10
      clear hS10
      simp only [Act.put, List.setIfInBounds_toArray, List.set_cons_zero, List.set_cons_succ]
      refine mf_yield (i := 4) (d := 74) (.bool true) rfl rfl (by kernel_rfl) (by kernel_rfl) (by kernel_rfl) (by kernel_rfl) hS (y_eql (b := true) (by rfl) rfl rfl rfl (by kernel_rfl) HEQ.out) ?_
      simp only [Act.put, List.setIfInBounds_toArray, List.set_cons_zero, List.set_cons_succ]
      refine mf_yield (i := 5) (d := 75) (.bool true) rfl rfl (by kernel_rfl) (by kernel_rfl) (by kernel_rfl) (by kernel_rfl) hS (y_eqlB (by rfl) rfl rfl rfl (by rfl)) ?_
      simp only [Act.put, List.setIfInBounds_toArray, List.set_cons_zero, List.set_cons_succ]
      refine mf_yield (i := 6) (d := 76) (.bool true) rfl rfl (by kernel_rfl) (by kernel_rfl) (by kernel_rfl) (by kernel_rfl) hS (y_run (by rfl) fun _ => by rfl) ?_
      simp only [Act.put, List.setIfInBounds_toArray, List.set_cons_zero, List.set_cons_succ]
      refine mf_yield (i := 7) (d := 77) (.pointer (some ⟨gp, 2, none⟩)) rfl rfl (by kernel_rfl) (by kernel_rfl) (by kernel_rfl) (by kernel_rfl) hS (y_fieldO (by rfl) rfl rfl (fldp 2 (by omega)) (Nat.zero_add _)) ?_
      simp only [Act.put, List.setIfInBounds_toArray, List.set_cons_zero, List.set_cons_succ]
      refine mf_yield (i := 8) (d := 78) (.int .i64 ((kb.toNat : Nat))) rfl rfl (by kernel_rfl) (by kernel_rfl) (by kernel_rfl) (by kernel_rfl) hS (y_cell1 (by rfl) rfl rfl Try.underlying3 rfl (fun w h => (cell_of_row _ _ _ _ _ _ (h.at (i := 2) rfl)).trans HQ2.out)) ?_
      simp only [Act.put, List.setIfInBounds_toArray, List.set_cons_zero, List.set_cons_succ]
      refine mf_yield (i := 9) (d := 79) (.bool true) rfl rfl (by kernel_rfl) (by kernel_rfl) (by kernel_rfl) (by kernel_rfl) hS (y_neqK (by rfl) rfl Try.underlying3 rfl rfl HONE.out) ?_
      simp only [Act.put, List.setIfInBounds_toArray, List.set_cons_zero, List.set_cons_succ]
      refine mf_yield (i := 10) (d := 80) (.bool true) rfl rfl (by kernel_rfl) (by kernel_rfl) (by kernel_rfl) (by kernel_rfl) hS (y_run (by rfl) fun _ => by rfl) ?_
      simp only [Act.put, List.setIfInBounds_toArray, List.set_cons_zero, List.set_cons_succ]
      refine mf_yield (i := 11) (d := 81) undef rfl rfl (by kernel_rfl) (by kernel_rfl) (by kernel_rfl) (by kernel_rfl) hS (y_skip (by rfl)) ?_
      simp only [Act.put, List.setIfInBounds_toArray, List.set_cons_zero, List.set_cons_succ]
      refine mf_yield (i := 12) (d := 82) undef rfl rfl (by kernel_rfl) (by kernel_rfl) (by kernel_rfl) (by kernel_rfl) hS (y_skip (by rfl)) ?_
      simp only [Act.put, List.setIfInBounds_toArray, List.set_cons_zero, List.set_cons_succ]
      refine mf_yield (i := 13) (d := 83) undef rfl rfl (by kernel_rfl) (by kernel_rfl) (by kernel_rfl) (by kernel_rfl) hS (y_skip (by rfl)) ?_
      simp only [Act.put, List.setIfInBounds_toArray, List.set_cons_zero, List.set_cons_succ]
      refine mf_yield (i := 14) (d := 84) undef rfl rfl (by kernel_rfl) (by kernel_rfl) (by kernel_rfl) (by kernel_rfl) hS (y_skip (by rfl)) ?_
      simp only [Act.put, List.setIfInBounds_toArray, List.set_cons_zero, List.set_cons_succ]
      refine mf_yield (i := 15) (d := 85) undef rfl rfl (by kernel_rfl) (by kernel_rfl) (by kernel_rfl) (by kernel_rfl) hS (y_skip (by rfl)) ?_
      simp only [Act.put, List.setIfInBounds_toArray, List.set_cons_zero, List.set_cons_succ]
      refine mf_yield (i := 16) (d := 86) undef rfl rfl (by kernel_rfl) (by kernel_rfl) (by kernel_rfl) (by kernel_rfl) hS (y_skip (by rfl)) ?_
      simp only [Act.put, List.setIfInBounds_toArray, List.set_cons_zero, List.set_cons_succ]
      refine mf_yield (i := 17) (d := 87) undef rfl rfl (by kernel_rfl) (by kernel_rfl) (by kernel_rfl) (by kernel_rfl) hS (y_skip (by rfl)) ?_
      simp only [Act.put, List.setIfInBounds_toArray, List.set_cons_zero, List.set_cons_succ]
      refine mf_yield (i := 18) (d := 88) undef rfl rfl (by kernel_rfl) (by kernel_rfl) (by kernel_rfl) (by kernel_rfl) hS (y_skip (by rfl)) ?_
      simp only [Act.put, List.setIfInBounds_toArray, List.set_cons_zero, List.set_cons_succ]
      refine mf_yield (i := 19) (d := 89) (.bool true) rfl rfl (by kernel_rfl) (by kernel_rfl) (by kernel_rfl) (by kernel_rfl) hS (y_run (by rfl) fun _ => by rfl) ?_
      simp only [Act.put, List.setIfInBounds_toArray, List.set_cons_zero, List.set_cons_succ]
      refine mf_yield (i := 20) (d := 90) (.bool true) rfl rfl (by kernel_rfl) (by kernel_rfl) (by kernel_rfl) (by kernel_rfl) hS (y_run (by rfl) fun _ => by rfl) ?_
      simp only [Act.put, List.setIfInBounds_toArray, List.set_cons_zero, List.set_cons_succ]
      refine mf_yield (i := 21) (d := 91) (.bool true) rfl rfl (by kernel_rfl) (by kernel_rfl) (by kernel_rfl) (by kernel_rfl) hS (y_run (by rfl) fun _ => by rfl) ?_
      simp only [Act.put, List.setIfInBounds_toArray, List.set_cons_zero, List.set_cons_succ]
      refine mf_yield (i := 22) (d := 92) (.pointer (some ⟨gp, 2, none⟩)) rfl rfl (by kernel_rfl) (by kernel_rfl) (by kernel_rfl) (by kernel_rfl) hS (y_fieldO (by rfl) rfl rfl (fldp 2 (by omega)) (Nat.zero_add _)) ?_
      simp only [Act.put, List.setIfInBounds_toArray, List.set_cons_zero, List.set_cons_succ]
      refine mf_yield (i := 23) (d := 93) (.int .i64 ((kb.toNat : Nat))) rfl rfl (by kernel_rfl) (by kernel_rfl) (by kernel_rfl) (by kernel_rfl) hS (y_cell1 (by rfl) rfl rfl Try.underlying3 rfl (fun w h => (cell_of_row _ _ _ _ _ _ (h.at (i := 2) rfl)).trans HQ2.out)) ?_
      simp only [Act.put, List.setIfInBounds_toArray, List.set_cons_zero, List.set_cons_succ]
      refine mf_yield (i := 24) (d := 94) (.int .u8 ((kb.toNat : Nat))) rfl rfl (by kernel_rfl) (by kernel_rfl) (by kernel_rfl) (by kernel_rfl) hS (y_run (by rfl) fun _ => by rfl) ?_
      simp only [Act.put, List.setIfInBounds_toArray, List.set_cons_zero, List.set_cons_succ]
      refine mf_yield (i := 25) (d := 95) (.int .i64 ((kb.toNat : Nat))) rfl rfl (by kernel_rfl) (by kernel_rfl) (by kernel_rfl) (by kernel_rfl) hS (y_int8 (by rfl) rfl rfl kl) ?_
      simp only [Act.put, List.setIfInBounds_toArray, List.set_cons_zero, List.set_cons_succ]
      refine mf_yield (i := 26) (d := 96) (.bool true) rfl rfl (by kernel_rfl) (by kernel_rfl) (by kernel_rfl) (by kernel_rfl) hS (y_eqlK (by rfl) rfl Try.underlying3 rfl rfl (by simp)) ?_
      simp only [Act.put, List.setIfInBounds_toArray, List.set_cons_zero, List.set_cons_succ]
      refine mf_yield (i := 27) (d := 97) (.bool true) rfl rfl (by kernel_rfl) (by kernel_rfl) (by kernel_rfl) (by kernel_rfl) hS (y_run (by rfl) fun _ => by rfl) ?_
      simp only [Act.put, List.setIfInBounds_toArray, List.set_cons_zero, List.set_cons_succ]
      refine mf_yield (i := 28) (d := 98) (.bool true) rfl rfl (by kernel_rfl) (by kernel_rfl) (by kernel_rfl) (by kernel_rfl) hS (y_run (by rfl) fun _ => by rfl) ?_
      simp only [Act.put, List.setIfInBounds_toArray, List.set_cons_zero, List.set_cons_succ]
      refine mf_yield (i := 29) (d := 99) (.pointer (some ⟨gp, 5, none⟩)) rfl rfl (by kernel_rfl) (by kernel_rfl) (by kernel_rfl) (by kernel_rfl) hS (y_fieldO (by rfl) rfl rfl (fldp 5 (by omega)) (Nat.zero_add _)) ?_
      simp only [Act.put, List.setIfInBounds_toArray, List.set_cons_zero, List.set_cons_succ]
      refine mf_yield (i := 30) (d := 100) (.string Y) rfl rfl (by kernel_rfl) (by kernel_rfl) (by kernel_rfl) (by kernel_rfl) hS (y_cell1 (by rfl) rfl rfl Try.underlying9 rfl (fun w h => (cell_of_row _ _ _ _ _ _ (h.at (i := 2) rfl)).trans HQ5.out)) ?_
      simp only [Act.put, List.setIfInBounds_toArray, List.set_cons_zero, List.set_cons_succ]
      refine mf_yield (i := 31) (d := 101) (.int .i64 ((sb.toNat : Nat))) rfl rfl (by kernel_rfl) (by kernel_rfl) (by kernel_rfl) (by kernel_rfl) hS (y_lenS (by rfl) rfl rfl HYS.out) ?_
      simp only [Act.put, List.setIfInBounds_toArray, List.set_cons_zero, List.set_cons_succ]
      refine mf_yield (i := 32) (d := 102) (.int .u8 ((sb.toNat : Nat))) rfl rfl (by kernel_rfl) (by kernel_rfl) (by kernel_rfl) (by kernel_rfl) hS (y_run (by rfl) fun _ => by rfl) ?_
      simp only [Act.put, List.setIfInBounds_toArray, List.set_cons_zero, List.set_cons_succ]
      refine mf_yield (i := 33) (d := 103) (.int .i64 ((sb.toNat : Nat))) rfl rfl (by kernel_rfl) (by kernel_rfl) (by kernel_rfl) (by kernel_rfl) hS (y_int8 (by rfl) rfl rfl sl) ?_
      simp only [Act.put, List.setIfInBounds_toArray, List.set_cons_zero, List.set_cons_succ]
      refine mf_yield (i := 34) (d := 104) (.bool true) rfl rfl (by kernel_rfl) (by kernel_rfl) (by kernel_rfl) (by kernel_rfl) hS (y_eqlK (by rfl) rfl Try.underlying3 rfl rfl (by simp)) ?_
      simp only [Act.put, List.setIfInBounds_toArray, List.set_cons_zero, List.set_cons_succ]
      refine mf_yield (i := 35) (d := 105) (.bool true) rfl rfl (by kernel_rfl) (by kernel_rfl) (by kernel_rfl) (by kernel_rfl) hS (y_run (by rfl) fun _ => by rfl) ?_
      simp only [Act.put, List.setIfInBounds_toArray, List.set_cons_zero, List.set_cons_succ]
      refine mf_yield (i := 36) (d := 6) (.bool true) rfl rfl (by kernel_rfl) (by kernel_rfl) (by kernel_rfl) (by kernel_rfl) hS (y_run (by rfl) fun _ => by rfl) ?_
      simp only [Act.put, List.setIfInBounds_toArray, List.set_cons_zero, List.set_cons_succ]
      refine mf_done (by kernel_rfl) ?_
      have HBB := Lib.hid hS.below
      clear hS
      go_wp2_with fail
      go_ret
      exact ⟨rfl, HBB.out⟩

set_option maxHeartbeats 4000000 in
theorem heads_tf1 (p : Pv) (kb sb : UInt8) (w : World) (ho : p.Ok) (hd : p.d.length ≤ maxLen) (hbig : ¬ 200 < p.d.length) (hr : p.right) (hf : FormOk (fixb ((p.lay.set 12 kb).set 14 sb))) (he1 : (kb.toNat : Int) = p.k) (he2 : sb.toNat ≠ p.d.length) (hke : kb.toNat = 1) :
    Calls Try.prog 7 #[.agg (pgV p), .int .u8 (kb.toNat : Int), .int .u8 (sb.toNat : Int)] w fun e w' => e = .returned (.bool true) ∧ Below w.heap.size w w' := by
  have HO := Lib.hid ho
  have HD := Lib.hid hd
  have HI0 := Lib.hid ((Hv.start w).alloc (pgV p) 24)
  simp only [List.nil_append] at HI0
  have kl := kb.toNat_lt
  have sl := sb.toNat_lt
  obtain ⟨P, hP⟩ : ∃ P, pgV p = P := ⟨_, rfl⟩
  obtain ⟨X, hX⟩ : ∃ X : ByteArray, ⟨p.d.toArray⟩ = X := ⟨_, rfl⟩
  have HP := Lib.hid hP
  have HPS := Lib.hid (show P.size = 6 by rw [← hP]; rfl)
  have HX5 := Lib.hid (show P[5]? = some (.string X) by rw [← hP, ← hX]; rfl)
  have HX2 := Lib.hid (show P[2]? = some (.int .i64 p.k) by rw [← hP]; rfl)
  obtain ⟨N, hN⟩ : ∃ N, p.d.length = N := ⟨_, rfl⟩
  have hs : X.size = N := by rw [← hX, ← hN]; simp [ByteArray.size]
  have HN := Lib.hid hN
  have hz := zero_pg
  have hzp := zero_api
  rw [hP] at HI0 ⊢
  have hbig' : ¬ 200 < N := by rw [← hN]; exact hbig
  have HR := Lib.hid hr
  clear hbig hr
  have HF := Lib.hid hf
  have HE1 := Lib.hid he1
  have HKE := Lib.hid hke
  rw [hN] at he2
  have HE2 := Lib.hid he2
  clear he2
  clear hf he1 hke
  clear ho hd hP hX hN
  go_enter Try.func7, Try.ntmps7
  go_wp2_with fail
  refine (awake_as _).mono ?_
  rintro e w1 ⟨rfl, hb⟩
  have HI1 := Lib.hid (HI0.out.next hb)
  clear hb
  have c5 : w1.cell? ⟨w.heap.size, 5, none⟩ = some (.string X) := by rw [cell_of_row _ _ _ _ _ _ (HI1.out.at (i := 0) rfl)]; exact HX5.out
  go_upto_region 3 with (first
    | (refine wpList_load_w rfl 24 _ rfl _ rfl (HI1.out.at (i := 0) rfl) Try.underlying24 rfl (info_rp HPS.out) ?_)
    | fail)
  go_wp2_with (first
    | (refine wpList_load_w rfl 24 _ rfl _ rfl (HI1.out.at (i := 0) rfl) Try.underlying24 rfl (info_rp HPS.out) ?_)
    | fail)
  rw [← HP.out]
  refine (of_any p _).mono ?_
  rintro e w2 ⟨rfl, hb⟩
  have HI2 := Lib.hid (HI1.out.next hb)
  clear hb
  go_wp2_with fail
  refine (lay_yes p _ HD.out HO.out HR.out).mono ?_
  rintro e w3 ⟨rfl, hb⟩
  have HI3 := Lib.hid (HI2.out.next hb)
  clear hb
  rw [HP.out]
  obtain ⟨l, hl⟩ : ∃ l, p.lay = l := ⟨_, rfl⟩
  have HEl := Lib.hid hl
  have HLl := Lib.hid (show l.length = 64 by rw [← hl]; exact Pv.lay_length HR.out)
  have HSl := Lib.hid (show (bl l).size = 64 by rw [bl_size, HLl.out])
  have HZl := Lib.hid (show (bl z64).size = 64 by rw [bl_size, z64_len])
  have H1l := Lib.hid (bl_one l)
  rw [hl]
  clear hl
  go_upto_region 4 with (first
    | (refine wpList_store_row rfl 27 _ _ rfl w3.heap.size (bl l) rfl rfl _ _ (heap_alloc_new _ _) (info_api HSl.out) (by first | rfl | rw [HZl.out, HSl.out]) H1l.out ?_)
    | fail)
  rw [World.setRow_alloc_new]
  have HI4 := Lib.hid (HI3.out.alloc (bl l) 27)
  have HGgb := Lib.hid (HI3.out.below.size)
  revert HI4 HGgb
  generalize World.alloc w3 _ = W4
  generalize w3.heap.size = gb
  intro HI4 HGgb
  simp only [List.nil_append, List.cons_append] at HI4
  have hA := HI4.out.at (i := 1) rfl
  have c12 : W4.cell? ⟨gb, 12, none⟩ = some (.int .u8 (B l 12)) := by rw [cell_of_row _ _ _ _ _ _ hA, bl_at _ 12 (by rw [HLl.out]; omega)]
  have f12 : W4.frozen? ⟨gb, 12, none⟩ = false := hA.frozen 12
  have hi5 := HI4.out.cell (i := 1) rfl 12 (.int .u8 (kb.toNat : Int))
  rw [bl_set] at hi5
  have hA5 := hi5.at (i := 1) rfl
  have c14 : (W4.setCell ⟨gb, 12, none⟩ (.int .u8 (kb.toNat : Int))).cell? ⟨gb, 14, none⟩ = some (.int .u8 (B (l.set 12 kb) 14)) := by rw [cell_of_row _ _ _ _ _ _ hA5, bl_at _ 14 (by rw [List.length_set, HLl.out]; omega)]
  have f14 : (W4.setCell ⟨gb, 12, none⟩ (.int .u8 (kb.toNat : Int))).frozen? ⟨gb, 14, none⟩ = false := hA5.frozen 14
  have hi6 := hi5.cell (i := 1) rfl 14 (.int .u8 (sb.toNat : Int))
  rw [bl_set] at hi6
  simp only [List.set_cons_succ, List.set_cons_zero] at hi6
  have HI6 := Lib.hid hi6
  clear hA hA5 hi5 hi6
  go_upto_region 7 with fail
  clear c12 f12 c14 f14
  revert HI6
  generalize World.setCell _ _ _ = W6
  intro HI6
  obtain ⟨b, hb⟩ : ∃ b, (l.set 12 kb).set 14 sb = b := ⟨_, rfl⟩
  have HBL := Lib.hid (show b.length = 64 by rw [← hb, List.length_set, List.length_set]; exact HLl.out)
  rw [hb] at HI6
  have HB := Lib.hid hb
  clear hb
  have hcv := conv_bl (HI6.out.at (i := 1) rfl) 4 60 60 (by rw [HBL.out]; omega)
  go_wp2_with fail
  refine (rsum_as b HBL.out _).mono ?_
  rintro e w7 ⟨rfl, hb⟩
  have HI7 := Lib.hid ((hb ▸ HI6.out : Hv w _ w7))
  clear hb
  go_wp2_with fail
  refine (refFour_any _ _ (moreS_lt _ _)).mono ?_
  rintro e w8 ⟨rfl, hb⟩
  have HI8 := Lib.hid (HI7.out.next hb)
  clear hb
  have hS0 : (⟨(fourL (moreS 0 (b.drop 4))).toArray⟩ : ByteArray).data.toList = fourL (moreS 0 (b.drop 4)) := rfl
  have hSs : (⟨(fourL (moreS 0 (b.drop 4))).toArray⟩ : ByteArray).size = 4 := rfl
  revert hS0 hSs
  generalize (⟨(fourL (moreS 0 (b.drop 4))).toArray⟩ : ByteArray) = SX
  intro hS0 hSs
  have HSX := Lib.hid hS0
  have HSS := Lib.hid hSs
  clear hS0 hcv
  go_wp2_with fail
  rw [← fixk_0 b] at HI8
  go_loopw [10] (fun i w' => ∃ k : Nat, k ≤ 4 ∧ i = .int .i64 k ∧ Hid (Hv w [(w.heap.size, P, 24), (gb, bl (fixk b k), 27)] w')) (fun i _ => 4 - (intOf i).toNat)
  case atStart => exact ⟨0, by omega, rfl, HI8⟩
  case round =>
    obtain ⟨k, hk, rfl, HK⟩ := hrel
    clear HI8
    by_cases hlt : k < 4
    · have hA := HK.out.at (i := 1) rfl
      have hkl := fixk_len HBL.out hk
      have c1 : wr.cell? ⟨gb, k, none⟩ = some (.int .u8 (B (fixk b k) k)) := by rw [cell_of_row _ _ _ _ _ _ hA, bl_at _ k (by rw [hkl]; omega)]
      have c2 : wr.frozen? ⟨gb, k, none⟩ = false := hA.frozen k
      have hkS : k < SX.size := by rw [HSS.out]; exact hlt
      have hn := HK.out.cell (i := 1) rfl k (.int .u8 ((((fourL (moreS 0 (b.drop 4))).getD k 0).toNat : Nat) : Int))
      rw [bl_set, fixk_put HBL.out hlt] at hn
      simp only [List.set_cons_succ, List.set_cons_zero] at hn
      have hYL : ((fourL (moreS 0 (b.drop 4))).getD k 0) = SX[k] := by
        rw [← HSX.out, gd_get _ _ (by rw [← size_list]; exact hkS)]; rfl
      rw [hYL] at hn
      have HNX := Lib.hid hn
      clear hn hYL hA HK
      go_wp2
      go_roundw
      case rel => exact ⟨k + 1, by omega, by go_num, HNX⟩
      case measure => simp [intOf]; omega
    · obtain rfl : k = 4 := by omega
      rw [fixk_4] at HK
      rw [show ((4 : Nat) : Int) = 4 from rfl]
      have HI9 := HK
      clear HK
      obtain ⟨M, hM⟩ : ∃ M, fixb b = M := ⟨_, rfl⟩
      have HM := Lib.hid hM
      have HML := Lib.hid (show M.length = 64 by rw [← hM]; exact fixb_len HBL.out)
      have HMS := Lib.hid (show SumOk M by rw [← hM]; exact fixb_sum b)
      have HMK := Lib.hid (show M = fixb ((p.lay.set 12 kb).set 14 sb) by rw [← hM, ← HB.out, ← HEl.out])
      rw [hM] at HI9
      clear hM
      have HBM := Lib.hid (show (bl M).size = 64 by rw [bl_size, HML.out])
      obtain ⟨T, hT⟩ : ∃ T, pgV Pv.zero = T := ⟨_, rfl⟩
      have HT := Lib.hid hT
      have HTS := Lib.hid (show T.size = 6 by rw [← hT]; rfl)
      have HT1 := Lib.hid (show T.all (·.oneCell') = true by rw [← hT]; exact pgV_one _)
      rw [hT] at hz
      clear hT
      rw [← HMK.out] at HF
      have hf := HF.out
      have hk12 : B M 12 = kb.toNat := by
        rw [HMK.out, fixb_B _ 12 (by omega)]
        unfold B
        rw [List.getD_eq_getElem?_getD, List.getElem?_set_ne (by omega), List.getElem?_set_self (by rw [Pv.lay_length HR.out]; omega)]
        rfl
      have hk14 : B M 14 = sb.toNat := by
        rw [HMK.out, fixb_B _ 14 (by omega)]
        unfold B
        rw [List.getD_eq_getElem?_getD, List.getElem?_set_self (by rw [List.length_set, Pv.lay_length HR.out]; omega)]
        rfl
      have hlen : (pg M).d.length = sb.toNat := by
        show ((M.drop 15).take (B M 14)).length = _
        have := hf.2.2.2.2.2.1
        rw [List.length_take, List.length_drop, HML.out, hk14]
        omega
      have HK12 := Lib.hid hk12
      have HLEN := Lib.hid hlen
      have hrd : ∀ w, Calls Try.prog 12 #[.agg (bl M)] w fun e w' => e = .returned (.tuple #[.agg (pgV (pg M)), .int .i64 0]) ∧ Below w.heap.size w w' := fun w => by
        have h := read_as M w HML.out
        rw [(rd_yes HMS.out HF.out).1, (rd_yes HMS.out HF.out).2] at h
        exact h
      obtain ⟨Q, hQ⟩ : ∃ Q, pgV (pg M) = Q := ⟨_, rfl⟩
      obtain ⟨Y, hY⟩ : ∃ Y : ByteArray, ⟨(pg M).d.toArray⟩ = Y := ⟨_, rfl⟩
      have HQS := Lib.hid (show Q.size = 6 by rw [← hQ]; rfl)
      have HQN := Lib.hid (show Q.all (·.oneCell') = true by rw [← hQ]; exact pgV_one _)
      have HQ2 := Lib.hid (show Q[2]? = some (.int .i64 (kb.toNat : Nat)) by rw [← hQ, ← hk12]; rfl)
      have HQ5 := Lib.hid (show Q[5]? = some (.string Y) by rw [← hQ, ← hY]; rfl)
      have HYS := Lib.hid (show Y.size = sb.toNat by rw [← hY, ← hlen]; simp [ByteArray.size])
      have h13 : B M 13 = 0 := hf.2.2.2.1 (by rw [hk12]; exact HKE.out)
      have HQ3 := Lib.hid (show Q[3]? = some (.bool false) by
        rw [← hQ]
        show some (Value.bool (decide (B M 13 % 2 = 1))) = _
        rw [h13]; rfl)
      have HQ4 := Lib.hid (show Q[4]? = some (.bool false) by
        rw [← hQ]
        show some (Value.bool (decide (2 ≤ B M 13))) = _
        rw [h13]; rfl)
      have HONE := Lib.hid (show (((kb.toNat : Nat) : Int) != 1) = false by rw [HKE.out]; rfl)
      clear h13
      have hpq : pEq (pg M) p = false := by
          cases h : pEq (pg M) p with
          | false => rfl
          | true => exact absurd (show sb.toNat = N by rw [← HN.out, ← pEq_iff.1 h, HLEN.out]) HE2.out
      have HEQ := Lib.hid (show ∀ w, (Op.equalIn 10000 24 (.agg Q) (.agg P)).run Try.prog w = .ok false w from fun w => by rw [← hQ, ← HP.out, rpages_is, hpq])
      have hpl := fun w => plain_any (pg M) w
      simp only [hQ] at hrd hpl
      have HRD := Lib.hid hrd
      have HPL := Lib.hid hpl
      clear hrd hpl hQ hY hpq hk12 hk14 hlen hf
      go_wp2_with (first
        | (refine wpList_load_w rfl 27 _ rfl _ rfl (HI9.out.at (i := 1) rfl) Try.underlying27 rfl (info_api HBM.out) ?_)
        | fail)
      refine (HRD.out _).mono ?_
      rintro e w10 ⟨rfl, hb⟩
      have HI10 := Lib.hid (HI9.out.next hb)
      clear hb
      go_upto_region 13 with (first
        | (refine wpList_store_row rfl 31 _ _ rfl w10.heap.size Q rfl rfl _ _ (heap_alloc_new _ _) (info_pg HQS.out) (by rw [HQS.out, HTS.out]) HQN.out ?_)
        | fail)
      rw [World.setRow_alloc_new]
      have HI11 := Lib.hid (HI10.out.alloc Q 31)
      have HGgp := Lib.hid (HI10.out.below.size)
      revert HI11 HGgp
      generalize World.alloc w10 _ = W11
      generalize w10.heap.size = gp
      intro HI11 HGgp
      simp only [List.nil_append, List.cons_append] at HI11
      have c2 : W11.cell? ⟨w.heap.size, 2, none⟩ = some (.int .i64 p.k) := by rw [cell_of_row _ _ _ _ _ _ (HI11.out.at (i := 0) rfl)]; exact HX2.out
      have c5' : W11.cell? ⟨w.heap.size, 5, none⟩ = some (.string X) := by rw [cell_of_row _ _ _ _ _ _ (HI11.out.at (i := 0) rfl)]; exact HX5.out
      have e1 : (((kb.toNat : Nat) : Int) == p.k) = true := beq_iff_eq.2 HE1.out
      have e2 : (((sb.toNat : Nat) : Int) == ((N : Nat) : Int)) = false := beq_eq_false_iff_ne.2 (by have := HE2.out; omega)
      go_wp2_with fail
      refine mf_start (Hv w [(w.heap.size, P, 24), (gb, bl M, 27), (gp, Q, 31)]) (fun _ => false) HI11.out.drew fun hS => ?_
      refine mf_yield (i := 0) (d := 70) (.bool false) rfl rfl (by kernel_rfl) (by kernel_rfl) (by kernel_rfl) (by kernel_rfl) hS (y_run (by rfl) fun _ => by rfl) ?_
      simp only [Act.put, List.setIfInBounds_toArray, List.set_cons_zero, List.set_cons_succ]
      refine mf_yield (i := 1) (d := 71) (.agg Q) rfl rfl (by kernel_rfl) (by kernel_rfl) (by kernel_rfl) (by kernel_rfl) hS (y_load_w (by rfl) rfl rfl (fun w' h => h.at (i := 2) rfl) Try.underlying31 rfl (info_pg HQS.out)) ?_
      simp only [Act.put, List.setIfInBounds_toArray, List.set_cons_zero, List.set_cons_succ]
      refine mf_yield (i := 3) (d := 73) (.agg P) rfl rfl (by kernel_rfl) (by kernel_rfl) (by kernel_rfl) (by kernel_rfl) hS (y_load_w (by rfl) rfl rfl (fun w' h => h.at (i := 0) rfl) Try.underlying24 rfl (info_rp HPS.out)) ?_
      simp only [Act.put, List.setIfInBounds_toArray, List.set_cons_zero, List.set_cons_succ]
      refine mf_ready [2] (by kernel_rfl) (by simp) (af_call (i := 2) (d := 72) (R := fun v w' => v = .agg Q ∧ Hv w [(w.heap.size, P, 24), (gb, bl M, 27), (gp, Q, 31)] w') #[.agg Q] rfl rfl (by rfl) rfl enter_plain (by kernel_rfl) ((HPL.out _).mono fun e w' h => ⟨_, h.1, rfl, hS.next h.2⟩) (fun v w' h => h.2) ?_ AllReadyF.nil)
      rintro v v2 ⟨rfl, h10⟩ hS10
      clear hS h10
      have hS := hS10
      clear hS10
      simp only [Act.put, List.setIfInBounds_toArray, List.set_cons_zero, List.set_cons_succ]
      refine mf_yield (i := 4) (d := 74) (.bool false) rfl rfl (by kernel_rfl) (by kernel_rfl) (by kernel_rfl) (by kernel_rfl) hS (y_eql (b := false) (by rfl) rfl rfl rfl (by kernel_rfl) HEQ.out) ?_
      simp only [Act.put, List.setIfInBounds_toArray, List.set_cons_zero, List.set_cons_succ]
      refine mf_yield (i := 5) (d := 75) (.bool true) rfl rfl (by kernel_rfl) (by kernel_rfl) (by kernel_rfl) (by kernel_rfl) hS (y_eqlB (by rfl) rfl rfl rfl (by rfl)) ?_
      simp only [Act.put, List.setIfInBounds_toArray, List.set_cons_zero, List.set_cons_succ]
      refine mf_yield (i := 6) (d := 76) (.bool true) rfl rfl (by kernel_rfl) (by kernel_rfl) (by kernel_rfl) (by kernel_rfl) hS (y_run (by rfl) fun _ => by rfl) ?_
      simp only [Act.put, List.setIfInBounds_toArray, List.set_cons_zero, List.set_cons_succ]
      refine mf_yield (i := 7) (d := 77) (.pointer (some ⟨gp, 2, none⟩)) rfl rfl (by kernel_rfl) (by kernel_rfl) (by kernel_rfl) (by kernel_rfl) hS (y_fieldO (by rfl) rfl rfl (fldp 2 (by omega)) (Nat.zero_add _)) ?_
      simp only [Act.put, List.setIfInBounds_toArray, List.set_cons_zero, List.set_cons_succ]
      refine mf_yield (i := 8) (d := 78) (.int .i64 ((kb.toNat : Nat))) rfl rfl (by kernel_rfl) (by kernel_rfl) (by kernel_rfl) (by kernel_rfl) hS (y_cell1 (by rfl) rfl rfl Try.underlying3 rfl (fun w h => (cell_of_row _ _ _ _ _ _ (h.at (i := 2) rfl)).trans HQ2.out)) ?_
      simp only [Act.put, List.setIfInBounds_toArray, List.set_cons_zero, List.set_cons_succ]
      refine mf_yield (i := 9) (d := 79) (.bool false) rfl rfl (by kernel_rfl) (by kernel_rfl) (by kernel_rfl) (by kernel_rfl) hS (y_neqK (by rfl) rfl Try.underlying3 rfl rfl HONE.out) ?_
      simp only [Act.put, List.setIfInBounds_toArray, List.set_cons_zero, List.set_cons_succ]
      refine mf_yield (i := 10) (d := 80) (.bool false) rfl rfl (by kernel_rfl) (by kernel_rfl) (by kernel_rfl) (by kernel_rfl) hS (y_run (by rfl) fun _ => by rfl) ?_
      simp only [Act.put, List.setIfInBounds_toArray, List.set_cons_zero, List.set_cons_succ]
      refine mf_yield (i := 11) (d := 81) (.pointer (some ⟨gp, 3, none⟩)) rfl rfl (by kernel_rfl) (by kernel_rfl) (by kernel_rfl) (by kernel_rfl) hS (y_fieldO (by rfl) rfl rfl (fldp 3 (by omega)) (Nat.zero_add _)) ?_
      simp only [Act.put, List.setIfInBounds_toArray, List.set_cons_zero, List.set_cons_succ]
      refine mf_yield (i := 12) (d := 82) (.bool false) rfl rfl (by kernel_rfl) (by kernel_rfl) (by kernel_rfl) (by kernel_rfl) hS (y_cell1 (by rfl) rfl rfl Try.underlying4 rfl (fun w h => (cell_of_row _ _ _ _ _ _ (h.at (i := 2) rfl)).trans HQ3.out)) ?_
      simp only [Act.put, List.setIfInBounds_toArray, List.set_cons_zero, List.set_cons_succ]
      refine mf_yield (i := 13) (d := 83) (.bool true) rfl rfl (by kernel_rfl) (by kernel_rfl) (by kernel_rfl) (by kernel_rfl) hS (y_not (b := false) (by rfl) rfl rfl) ?_
      simp only [Act.put, List.setIfInBounds_toArray, List.set_cons_zero, List.set_cons_succ]
      refine mf_yield (i := 14) (d := 84) (.bool true) rfl rfl (by kernel_rfl) (by kernel_rfl) (by kernel_rfl) (by kernel_rfl) hS (y_run (by rfl) fun _ => by rfl) ?_
      simp only [Act.put, List.setIfInBounds_toArray, List.set_cons_zero, List.set_cons_succ]
      refine mf_yield (i := 15) (d := 85) (.pointer (some ⟨gp, 4, none⟩)) rfl rfl (by kernel_rfl) (by kernel_rfl) (by kernel_rfl) (by kernel_rfl) hS (y_fieldO (by rfl) rfl rfl (fldp 4 (by omega)) (Nat.zero_add _)) ?_
      simp only [Act.put, List.setIfInBounds_toArray, List.set_cons_zero, List.set_cons_succ]
      refine mf_yield (i := 16) (d := 86) (.bool false) rfl rfl (by kernel_rfl) (by kernel_rfl) (by kernel_rfl) (by kernel_rfl) hS (y_cell1 (by rfl) rfl rfl Try.underlying4 rfl (fun w h => (cell_of_row _ _ _ _ _ _ (h.at (i := 2) rfl)).trans HQ4.out)) ?_
      simp only [Act.put, List.setIfInBounds_toArray, List.set_cons_zero, List.set_cons_succ]
      refine mf_yield (i := 17) (d := 87) (.bool true) rfl rfl (by kernel_rfl) (by kernel_rfl) (by kernel_rfl) (by kernel_rfl) hS (y_not (b := false) (by rfl) rfl rfl) ?_
      simp only [Act.put, List.setIfInBounds_toArray, List.set_cons_zero, List.set_cons_succ]
      refine mf_yield (i := 18) (d := 88) (.bool true) rfl rfl (by kernel_rfl) (by kernel_rfl) (by kernel_rfl) (by kernel_rfl) hS (y_run (by rfl) fun _ => by rfl) ?_
      simp only [Act.put, List.setIfInBounds_toArray, List.set_cons_zero, List.set_cons_succ]
      refine mf_yield (i := 19) (d := 89) (.bool true) rfl rfl (by kernel_rfl) (by kernel_rfl) (by kernel_rfl) (by kernel_rfl) hS (y_run (by rfl) fun _ => by rfl) ?_
      simp only [Act.put, List.setIfInBounds_toArray, List.set_cons_zero, List.set_cons_succ]
      refine mf_yield (i := 20) (d := 90) (.bool true) rfl rfl (by kernel_rfl) (by kernel_rfl) (by kernel_rfl) (by kernel_rfl) hS (y_run (by rfl) fun _ => by rfl) ?_
      simp only [Act.put, List.setIfInBounds_toArray, List.set_cons_zero, List.set_cons_succ]
      refine mf_yield (i := 21) (d := 91) (.bool true) rfl rfl (by kernel_rfl) (by kernel_rfl) (by kernel_rfl) (by kernel_rfl) hS (y_run (by rfl) fun _ => by rfl) ?_
      simp only [Act.put, List.setIfInBounds_toArray, List.set_cons_zero, List.set_cons_succ]
      refine mf_yield (i := 22) (d := 92) (.pointer (some ⟨gp, 2, none⟩)) rfl rfl (by kernel_rfl) (by kernel_rfl) (by kernel_rfl) (by kernel_rfl) hS (y_fieldO (by rfl) rfl rfl (fldp 2 (by omega)) (Nat.zero_add _)) ?_
      simp only [Act.put, List.setIfInBounds_toArray, List.set_cons_zero, List.set_cons_succ]
      refine mf_yield (i := 23) (d := 93) (.int .i64 ((kb.toNat : Nat))) rfl rfl (by kernel_rfl) (by kernel_rfl) (by kernel_rfl) (by kernel_rfl) hS (y_cell1 (by rfl) rfl rfl Try.underlying3 rfl (fun w h => (cell_of_row _ _ _ _ _ _ (h.at (i := 2) rfl)).trans HQ2.out)) ?_
      simp only [Act.put, List.setIfInBounds_toArray, List.set_cons_zero, List.set_cons_succ]
      refine mf_yield (i := 24) (d := 94) (.int .u8 ((kb.toNat : Nat))) rfl rfl (by kernel_rfl) (by kernel_rfl) (by kernel_rfl) (by kernel_rfl) hS (y_run (by rfl) fun _ => by rfl) ?_
      simp only [Act.put, List.setIfInBounds_toArray, List.set_cons_zero, List.set_cons_succ]
      refine mf_yield (i := 25) (d := 95) (.int .i64 ((kb.toNat : Nat))) rfl rfl (by kernel_rfl) (by kernel_rfl) (by kernel_rfl) (by kernel_rfl) hS (y_int8 (by rfl) rfl rfl kl) ?_
      simp only [Act.put, List.setIfInBounds_toArray, List.set_cons_zero, List.set_cons_succ]
      refine mf_yield (i := 26) (d := 96) (.bool true) rfl rfl (by kernel_rfl) (by kernel_rfl) (by kernel_rfl) (by kernel_rfl) hS (y_eqlK (by rfl) rfl Try.underlying3 rfl rfl (by simp)) ?_
      simp only [Act.put, List.setIfInBounds_toArray, List.set_cons_zero, List.set_cons_succ]
      refine mf_yield (i := 27) (d := 97) (.bool true) rfl rfl (by kernel_rfl) (by kernel_rfl) (by kernel_rfl) (by kernel_rfl) hS (y_run (by rfl) fun _ => by rfl) ?_
      simp only [Act.put, List.setIfInBounds_toArray, List.set_cons_zero, List.set_cons_succ]
      refine mf_yield (i := 28) (d := 98) (.bool true) rfl rfl (by kernel_rfl) (by kernel_rfl) (by kernel_rfl) (by kernel_rfl) hS (y_run (by rfl) fun _ => by rfl) ?_
      simp only [Act.put, List.setIfInBounds_toArray, List.set_cons_zero, List.set_cons_succ]
      refine mf_yield (i := 29) (d := 99) (.pointer (some ⟨gp, 5, none⟩)) rfl rfl (by kernel_rfl) (by kernel_rfl) (by kernel_rfl) (by kernel_rfl) hS (y_fieldO (by rfl) rfl rfl (fldp 5 (by omega)) (Nat.zero_add _)) ?_
      simp only [Act.put, List.setIfInBounds_toArray, List.set_cons_zero, List.set_cons_succ]
      refine mf_yield (i := 30) (d := 100) (.string Y) rfl rfl (by kernel_rfl) (by kernel_rfl) (by kernel_rfl) (by kernel_rfl) hS (y_cell1 (by rfl) rfl rfl Try.underlying9 rfl (fun w h => (cell_of_row _ _ _ _ _ _ (h.at (i := 2) rfl)).trans HQ5.out)) ?_
      simp only [Act.put, List.setIfInBounds_toArray, List.set_cons_zero, List.set_cons_succ]
      refine mf_yield (i := 31) (d := 101) (.int .i64 ((sb.toNat : Nat))) rfl rfl (by kernel_rfl) (by kernel_rfl) (by kernel_rfl) (by kernel_rfl) hS (y_lenS (by rfl) rfl rfl HYS.out) ?_
      simp only [Act.put, List.setIfInBounds_toArray, List.set_cons_zero, List.set_cons_succ]
      refine mf_yield (i := 32) (d := 102) (.int .u8 ((sb.toNat : Nat))) rfl rfl (by kernel_rfl) (by kernel_rfl) (by kernel_rfl) (by kernel_rfl) hS (y_run (by rfl) fun _ => by rfl) ?_
      simp only [Act.put, List.setIfInBounds_toArray, List.set_cons_zero, List.set_cons_succ]
      refine mf_yield (i := 33) (d := 103) (.int .i64 ((sb.toNat : Nat))) rfl rfl (by kernel_rfl) (by kernel_rfl) (by kernel_rfl) (by kernel_rfl) hS (y_int8 (by rfl) rfl rfl sl) ?_
      simp only [Act.put, List.setIfInBounds_toArray, List.set_cons_zero, List.set_cons_succ]
      refine mf_yield (i := 34) (d := 104) (.bool true) rfl rfl (by kernel_rfl) (by kernel_rfl) (by kernel_rfl) (by kernel_rfl) hS (y_eqlK (by rfl) rfl Try.underlying3 rfl rfl (by simp)) ?_
      simp only [Act.put, List.setIfInBounds_toArray, List.set_cons_zero, List.set_cons_succ]
      refine mf_yield (i := 35) (d := 105) (.bool true) rfl rfl (by kernel_rfl) (by kernel_rfl) (by kernel_rfl) (by kernel_rfl) hS (y_run (by rfl) fun _ => by rfl) ?_
      simp only [Act.put, List.setIfInBounds_toArray, List.set_cons_zero, List.set_cons_succ]
      refine mf_yield (i := 36) (d := 6) (.bool true) rfl rfl (by kernel_rfl) (by kernel_rfl) (by kernel_rfl) (by kernel_rfl) hS (y_run (by rfl) fun _ => by rfl) ?_
      simp only [Act.put, List.setIfInBounds_toArray, List.set_cons_zero, List.set_cons_succ]
      refine mf_done (by kernel_rfl) ?_
      have HBB := Lib.hid hS.below
      clear hS
      go_wp2_with fail
      go_ret
      exact ⟨rfl, HBB.out⟩

set_option maxHeartbeats 4000000 in
theorem heads_tf2 (p : Pv) (kb sb : UInt8) (w : World) (ho : p.Ok) (hd : p.d.length ≤ maxLen) (hbig : ¬ 200 < p.d.length) (hr : p.right) (hf : FormOk (fixb ((p.lay.set 12 kb).set 14 sb))) (he1 : (kb.toNat : Int) = p.k) (he2 : sb.toNat ≠ p.d.length) (hke : kb.toNat ≠ 1) :
    Calls Try.prog 7 #[.agg (pgV p), .int .u8 (kb.toNat : Int), .int .u8 (sb.toNat : Int)] w fun e w' => e = .returned (.bool true) ∧ Below w.heap.size w w' := by
  have HO := Lib.hid ho
  have HD := Lib.hid hd
  have HI0 := Lib.hid ((Hv.start w).alloc (pgV p) 24)
  simp only [List.nil_append] at HI0
  have kl := kb.toNat_lt
  have sl := sb.toNat_lt
  obtain ⟨P, hP⟩ : ∃ P, pgV p = P := ⟨_, rfl⟩
  obtain ⟨X, hX⟩ : ∃ X : ByteArray, ⟨p.d.toArray⟩ = X := ⟨_, rfl⟩
  have HP := Lib.hid hP
  have HPS := Lib.hid (show P.size = 6 by rw [← hP]; rfl)
  have HX5 := Lib.hid (show P[5]? = some (.string X) by rw [← hP, ← hX]; rfl)
  have HX2 := Lib.hid (show P[2]? = some (.int .i64 p.k) by rw [← hP]; rfl)
  obtain ⟨N, hN⟩ : ∃ N, p.d.length = N := ⟨_, rfl⟩
  have hs : X.size = N := by rw [← hX, ← hN]; simp [ByteArray.size]
  have HN := Lib.hid hN
  have hz := zero_pg
  have hzp := zero_api
  rw [hP] at HI0 ⊢
  have hbig' : ¬ 200 < N := by rw [← hN]; exact hbig
  have HR := Lib.hid hr
  clear hbig hr
  have HF := Lib.hid hf
  have HE1 := Lib.hid he1
  have HKE := Lib.hid hke
  rw [hN] at he2
  have HE2 := Lib.hid he2
  clear he2
  clear hf he1 hke
  clear ho hd hP hX hN
  go_enter Try.func7, Try.ntmps7
  go_wp2_with fail
  refine (awake_as _).mono ?_
  rintro e w1 ⟨rfl, hb⟩
  have HI1 := Lib.hid (HI0.out.next hb)
  clear hb
  have c5 : w1.cell? ⟨w.heap.size, 5, none⟩ = some (.string X) := by rw [cell_of_row _ _ _ _ _ _ (HI1.out.at (i := 0) rfl)]; exact HX5.out
  go_upto_region 3 with (first
    | (refine wpList_load_w rfl 24 _ rfl _ rfl (HI1.out.at (i := 0) rfl) Try.underlying24 rfl (info_rp HPS.out) ?_)
    | fail)
  go_wp2_with (first
    | (refine wpList_load_w rfl 24 _ rfl _ rfl (HI1.out.at (i := 0) rfl) Try.underlying24 rfl (info_rp HPS.out) ?_)
    | fail)
  rw [← HP.out]
  refine (of_any p _).mono ?_
  rintro e w2 ⟨rfl, hb⟩
  have HI2 := Lib.hid (HI1.out.next hb)
  clear hb
  go_wp2_with fail
  refine (lay_yes p _ HD.out HO.out HR.out).mono ?_
  rintro e w3 ⟨rfl, hb⟩
  have HI3 := Lib.hid (HI2.out.next hb)
  clear hb
  rw [HP.out]
  obtain ⟨l, hl⟩ : ∃ l, p.lay = l := ⟨_, rfl⟩
  have HEl := Lib.hid hl
  have HLl := Lib.hid (show l.length = 64 by rw [← hl]; exact Pv.lay_length HR.out)
  have HSl := Lib.hid (show (bl l).size = 64 by rw [bl_size, HLl.out])
  have HZl := Lib.hid (show (bl z64).size = 64 by rw [bl_size, z64_len])
  have H1l := Lib.hid (bl_one l)
  rw [hl]
  clear hl
  go_upto_region 4 with (first
    | (refine wpList_store_row rfl 27 _ _ rfl w3.heap.size (bl l) rfl rfl _ _ (heap_alloc_new _ _) (info_api HSl.out) (by first | rfl | rw [HZl.out, HSl.out]) H1l.out ?_)
    | fail)
  rw [World.setRow_alloc_new]
  have HI4 := Lib.hid (HI3.out.alloc (bl l) 27)
  have HGgb := Lib.hid (HI3.out.below.size)
  revert HI4 HGgb
  generalize World.alloc w3 _ = W4
  generalize w3.heap.size = gb
  intro HI4 HGgb
  simp only [List.nil_append, List.cons_append] at HI4
  have hA := HI4.out.at (i := 1) rfl
  have c12 : W4.cell? ⟨gb, 12, none⟩ = some (.int .u8 (B l 12)) := by rw [cell_of_row _ _ _ _ _ _ hA, bl_at _ 12 (by rw [HLl.out]; omega)]
  have f12 : W4.frozen? ⟨gb, 12, none⟩ = false := hA.frozen 12
  have hi5 := HI4.out.cell (i := 1) rfl 12 (.int .u8 (kb.toNat : Int))
  rw [bl_set] at hi5
  have hA5 := hi5.at (i := 1) rfl
  have c14 : (W4.setCell ⟨gb, 12, none⟩ (.int .u8 (kb.toNat : Int))).cell? ⟨gb, 14, none⟩ = some (.int .u8 (B (l.set 12 kb) 14)) := by rw [cell_of_row _ _ _ _ _ _ hA5, bl_at _ 14 (by rw [List.length_set, HLl.out]; omega)]
  have f14 : (W4.setCell ⟨gb, 12, none⟩ (.int .u8 (kb.toNat : Int))).frozen? ⟨gb, 14, none⟩ = false := hA5.frozen 14
  have hi6 := hi5.cell (i := 1) rfl 14 (.int .u8 (sb.toNat : Int))
  rw [bl_set] at hi6
  simp only [List.set_cons_succ, List.set_cons_zero] at hi6
  have HI6 := Lib.hid hi6
  clear hA hA5 hi5 hi6
  go_upto_region 7 with fail
  clear c12 f12 c14 f14
  revert HI6
  generalize World.setCell _ _ _ = W6
  intro HI6
  obtain ⟨b, hb⟩ : ∃ b, (l.set 12 kb).set 14 sb = b := ⟨_, rfl⟩
  have HBL := Lib.hid (show b.length = 64 by rw [← hb, List.length_set, List.length_set]; exact HLl.out)
  rw [hb] at HI6
  have HB := Lib.hid hb
  clear hb
  have hcv := conv_bl (HI6.out.at (i := 1) rfl) 4 60 60 (by rw [HBL.out]; omega)
  go_wp2_with fail
  refine (rsum_as b HBL.out _).mono ?_
  rintro e w7 ⟨rfl, hb⟩
  have HI7 := Lib.hid ((hb ▸ HI6.out : Hv w _ w7))
  clear hb
  go_wp2_with fail
  refine (refFour_any _ _ (moreS_lt _ _)).mono ?_
  rintro e w8 ⟨rfl, hb⟩
  have HI8 := Lib.hid (HI7.out.next hb)
  clear hb
  have hS0 : (⟨(fourL (moreS 0 (b.drop 4))).toArray⟩ : ByteArray).data.toList = fourL (moreS 0 (b.drop 4)) := rfl
  have hSs : (⟨(fourL (moreS 0 (b.drop 4))).toArray⟩ : ByteArray).size = 4 := rfl
  revert hS0 hSs
  generalize (⟨(fourL (moreS 0 (b.drop 4))).toArray⟩ : ByteArray) = SX
  intro hS0 hSs
  have HSX := Lib.hid hS0
  have HSS := Lib.hid hSs
  clear hS0 hcv
  go_wp2_with fail
  rw [← fixk_0 b] at HI8
  go_loopw [10] (fun i w' => ∃ k : Nat, k ≤ 4 ∧ i = .int .i64 k ∧ Hid (Hv w [(w.heap.size, P, 24), (gb, bl (fixk b k), 27)] w')) (fun i _ => 4 - (intOf i).toNat)
  case atStart => exact ⟨0, by omega, rfl, HI8⟩
  case round =>
    obtain ⟨k, hk, rfl, HK⟩ := hrel
    clear HI8
    by_cases hlt : k < 4
    · have hA := HK.out.at (i := 1) rfl
      have hkl := fixk_len HBL.out hk
      have c1 : wr.cell? ⟨gb, k, none⟩ = some (.int .u8 (B (fixk b k) k)) := by rw [cell_of_row _ _ _ _ _ _ hA, bl_at _ k (by rw [hkl]; omega)]
      have c2 : wr.frozen? ⟨gb, k, none⟩ = false := hA.frozen k
      have hkS : k < SX.size := by rw [HSS.out]; exact hlt
      have hn := HK.out.cell (i := 1) rfl k (.int .u8 ((((fourL (moreS 0 (b.drop 4))).getD k 0).toNat : Nat) : Int))
      rw [bl_set, fixk_put HBL.out hlt] at hn
      simp only [List.set_cons_succ, List.set_cons_zero] at hn
      have hYL : ((fourL (moreS 0 (b.drop 4))).getD k 0) = SX[k] := by
        rw [← HSX.out, gd_get _ _ (by rw [← size_list]; exact hkS)]; rfl
      rw [hYL] at hn
      have HNX := Lib.hid hn
      clear hn hYL hA HK
      go_wp2
      go_roundw
      case rel => exact ⟨k + 1, by omega, by go_num, HNX⟩
      case measure => simp [intOf]; omega
    · obtain rfl : k = 4 := by omega
      rw [fixk_4] at HK
      rw [show ((4 : Nat) : Int) = 4 from rfl]
      have HI9 := HK
      clear HK
      obtain ⟨M, hM⟩ : ∃ M, fixb b = M := ⟨_, rfl⟩
      have HM := Lib.hid hM
      have HML := Lib.hid (show M.length = 64 by rw [← hM]; exact fixb_len HBL.out)
      have HMS := Lib.hid (show SumOk M by rw [← hM]; exact fixb_sum b)
      have HMK := Lib.hid (show M = fixb ((p.lay.set 12 kb).set 14 sb) by rw [← hM, ← HB.out, ← HEl.out])
      rw [hM] at HI9
      clear hM
      have HBM := Lib.hid (show (bl M).size = 64 by rw [bl_size, HML.out])
      obtain ⟨T, hT⟩ : ∃ T, pgV Pv.zero = T := ⟨_, rfl⟩
      have HT := Lib.hid hT
      have HTS := Lib.hid (show T.size = 6 by rw [← hT]; rfl)
      have HT1 := Lib.hid (show T.all (·.oneCell') = true by rw [← hT]; exact pgV_one _)
      rw [hT] at hz
      clear hT
      rw [← HMK.out] at HF
      have hf := HF.out
      have hk12 : B M 12 = kb.toNat := by
        rw [HMK.out, fixb_B _ 12 (by omega)]
        unfold B
        rw [List.getD_eq_getElem?_getD, List.getElem?_set_ne (by omega), List.getElem?_set_self (by rw [Pv.lay_length HR.out]; omega)]
        rfl
      have hk14 : B M 14 = sb.toNat := by
        rw [HMK.out, fixb_B _ 14 (by omega)]
        unfold B
        rw [List.getD_eq_getElem?_getD, List.getElem?_set_self (by rw [List.length_set, Pv.lay_length HR.out]; omega)]
        rfl
      have hlen : (pg M).d.length = sb.toNat := by
        show ((M.drop 15).take (B M 14)).length = _
        have := hf.2.2.2.2.2.1
        rw [List.length_take, List.length_drop, HML.out, hk14]
        omega
      have HK12 := Lib.hid hk12
      have HLEN := Lib.hid hlen
      have hrd : ∀ w, Calls Try.prog 12 #[.agg (bl M)] w fun e w' => e = .returned (.tuple #[.agg (pgV (pg M)), .int .i64 0]) ∧ Below w.heap.size w w' := fun w => by
        have h := read_as M w HML.out
        rw [(rd_yes HMS.out HF.out).1, (rd_yes HMS.out HF.out).2] at h
        exact h
      obtain ⟨Q, hQ⟩ : ∃ Q, pgV (pg M) = Q := ⟨_, rfl⟩
      obtain ⟨Y, hY⟩ : ∃ Y : ByteArray, ⟨(pg M).d.toArray⟩ = Y := ⟨_, rfl⟩
      have HQS := Lib.hid (show Q.size = 6 by rw [← hQ]; rfl)
      have HQN := Lib.hid (show Q.all (·.oneCell') = true by rw [← hQ]; exact pgV_one _)
      have HQ2 := Lib.hid (show Q[2]? = some (.int .i64 (kb.toNat : Nat)) by rw [← hQ, ← hk12]; rfl)
      have HQ5 := Lib.hid (show Q[5]? = some (.string Y) by rw [← hQ, ← hY]; rfl)
      have HYS := Lib.hid (show Y.size = sb.toNat by rw [← hY, ← hlen]; simp [ByteArray.size])
      have HONE := Lib.hid (show (((kb.toNat : Nat) : Int) != 1) = true by have := HKE.out; rw [bne_iff_ne]; omega)
      have hpq : pEq (pg M) p = false := by
          cases h : pEq (pg M) p with
          | false => rfl
          | true => exact absurd (show sb.toNat = N by rw [← HN.out, ← pEq_iff.1 h, HLEN.out]) HE2.out
      have HEQ := Lib.hid (show ∀ w, (Op.equalIn 10000 24 (.agg Q) (.agg P)).run Try.prog w = .ok false w from fun w => by rw [← hQ, ← HP.out, rpages_is, hpq])
      have hpl := fun w => plain_any (pg M) w
      simp only [hQ] at hrd hpl
      have HRD := Lib.hid hrd
      have HPL := Lib.hid hpl
      clear hrd hpl hQ hY hpq hk12 hk14 hlen hf
      go_wp2_with (first
        | (refine wpList_load_w rfl 27 _ rfl _ rfl (HI9.out.at (i := 1) rfl) Try.underlying27 rfl (info_api HBM.out) ?_)
        | fail)
      refine (HRD.out _).mono ?_
      rintro e w10 ⟨rfl, hb⟩
      have HI10 := Lib.hid (HI9.out.next hb)
      clear hb
      go_upto_region 13 with (first
        | (refine wpList_store_row rfl 31 _ _ rfl w10.heap.size Q rfl rfl _ _ (heap_alloc_new _ _) (info_pg HQS.out) (by rw [HQS.out, HTS.out]) HQN.out ?_)
        | fail)
      rw [World.setRow_alloc_new]
      have HI11 := Lib.hid (HI10.out.alloc Q 31)
      have HGgp := Lib.hid (HI10.out.below.size)
      revert HI11 HGgp
      generalize World.alloc w10 _ = W11
      generalize w10.heap.size = gp
      intro HI11 HGgp
      simp only [List.nil_append, List.cons_append] at HI11
      have c2 : W11.cell? ⟨w.heap.size, 2, none⟩ = some (.int .i64 p.k) := by rw [cell_of_row _ _ _ _ _ _ (HI11.out.at (i := 0) rfl)]; exact HX2.out
      have c5' : W11.cell? ⟨w.heap.size, 5, none⟩ = some (.string X) := by rw [cell_of_row _ _ _ _ _ _ (HI11.out.at (i := 0) rfl)]; exact HX5.out
      have e1 : (((kb.toNat : Nat) : Int) == p.k) = true := beq_iff_eq.2 HE1.out
      have e2 : (((sb.toNat : Nat) : Int) == ((N : Nat) : Int)) = false := beq_eq_false_iff_ne.2 (by have := HE2.out; omega)
      go_wp2_with fail
      refine mf_start (Hv w [(w.heap.size, P, 24), (gb, bl M, 27), (gp, Q, 31)]) (fun _ => false) HI11.out.drew fun hS => ?_
      refine mf_yield (i := 0) (d := 70) (.bool false) rfl rfl (by kernel_rfl) (by kernel_rfl) (by kernel_rfl) (by kernel_rfl) hS (y_run (by rfl) fun _ => by rfl) ?_
      simp only [Act.put, List.setIfInBounds_toArray, List.set_cons_zero, List.set_cons_succ]
      refine mf_yield (i := 1) (d := 71) (.agg Q) rfl rfl (by kernel_rfl) (by kernel_rfl) (by kernel_rfl) (by kernel_rfl) hS (y_load_w (by rfl) rfl rfl (fun w' h => h.at (i := 2) rfl) Try.underlying31 rfl (info_pg HQS.out)) ?_
      simp only [Act.put, List.setIfInBounds_toArray, List.set_cons_zero, List.set_cons_succ]
      refine mf_yield (i := 3) (d := 73) (.agg P) rfl rfl (by kernel_rfl) (by kernel_rfl) (by kernel_rfl) (by kernel_rfl) hS (y_load_w (by rfl) rfl rfl (fun w' h => h.at (i := 0) rfl) Try.underlying24 rfl (info_rp HPS.out)) ?_
      simp only [Act.put, List.setIfInBounds_toArray, List.set_cons_zero, List.set_cons_succ]
      refine mf_ready [2] (by kernel_rfl) (by simp) (af_call (i := 2) (d := 72) (R := fun v w' => v = .agg Q ∧ Hv w [(w.heap.size, P, 24), (gb, bl M, 27), (gp, Q, 31)] w') #[.agg Q] rfl rfl (by rfl) rfl enter_plain (by kernel_rfl) ((HPL.out _).mono fun e w' h => ⟨_, h.1, rfl, hS.next h.2⟩) (fun v w' h => h.2) ?_ AllReadyF.nil)
      rintro v v2 ⟨rfl, h10⟩ hS10
      clear hS h10
      have hS := hS10
      clear hS10
      simp only [Act.put, List.setIfInBounds_toArray, List.set_cons_zero, List.set_cons_succ]
      refine mf_yield (i := 4) (d := 74) (.bool false) rfl rfl (by kernel_rfl) (by kernel_rfl) (by kernel_rfl) (by kernel_rfl) hS (y_eql (b := false) (by rfl) rfl rfl rfl (by kernel_rfl) HEQ.out) ?_
      simp only [Act.put, List.setIfInBounds_toArray, List.set_cons_zero, List.set_cons_succ]
      refine mf_yield (i := 5) (d := 75) (.bool true) rfl rfl (by kernel_rfl) (by kernel_rfl) (by kernel_rfl) (by kernel_rfl) hS (y_eqlB (by rfl) rfl rfl rfl (by rfl)) ?_
      simp only [Act.put, List.setIfInBounds_toArray, List.set_cons_zero, List.set_cons_succ]
      refine mf_yield (i := 6) (d := 76) (.bool true) rfl rfl (by kernel_rfl) (by kernel_rfl) (by kernel_rfl) (by kernel_rfl) hS (y_run (by rfl) fun _ => by rfl) ?_
      simp only [Act.put, List.setIfInBounds_toArray, List.set_cons_zero, List.set_cons_succ]
      refine mf_yield (i := 7) (d := 77) (.pointer (some ⟨gp, 2, none⟩)) rfl rfl (by kernel_rfl) (by kernel_rfl) (by kernel_rfl) (by kernel_rfl) hS (y_fieldO (by rfl) rfl rfl (fldp 2 (by omega)) (Nat.zero_add _)) ?_
      simp only [Act.put, List.setIfInBounds_toArray, List.set_cons_zero, List.set_cons_succ]
      refine mf_yield (i := 8) (d := 78) (.int .i64 ((kb.toNat : Nat))) rfl rfl (by kernel_rfl) (by kernel_rfl) (by kernel_rfl) (by kernel_rfl) hS (y_cell1 (by rfl) rfl rfl Try.underlying3 rfl (fun w h => (cell_of_row _ _ _ _ _ _ (h.at (i := 2) rfl)).trans HQ2.out)) ?_
      simp only [Act.put, List.setIfInBounds_toArray, List.set_cons_zero, List.set_cons_succ]
      refine mf_yield (i := 9) (d := 79) (.bool true) rfl rfl (by kernel_rfl) (by kernel_rfl) (by kernel_rfl) (by kernel_rfl) hS (y_neqK (by rfl) rfl Try.underlying3 rfl rfl HONE.out) ?_
      simp only [Act.put, List.setIfInBounds_toArray, List.set_cons_zero, List.set_cons_succ]
      refine mf_yield (i := 10) (d := 80) (.bool true) rfl rfl (by kernel_rfl) (by kernel_rfl) (by kernel_rfl) (by kernel_rfl) hS (y_run (by rfl) fun _ => by rfl) ?_
      simp only [Act.put, List.setIfInBounds_toArray, List.set_cons_zero, List.set_cons_succ]
      refine mf_yield (i := 11) (d := 81) undef rfl rfl (by kernel_rfl) (by kernel_rfl) (by kernel_rfl) (by kernel_rfl) hS (y_skip (by rfl)) ?_
      simp only [Act.put, List.setIfInBounds_toArray, List.set_cons_zero, List.set_cons_succ]
      refine mf_yield (i := 12) (d := 82) undef rfl rfl (by kernel_rfl) (by kernel_rfl) (by kernel_rfl) (by kernel_rfl) hS (y_skip (by rfl)) ?_
      simp only [Act.put, List.setIfInBounds_toArray, List.set_cons_zero, List.set_cons_succ]
      refine mf_yield (i := 13) (d := 83) undef rfl rfl (by kernel_rfl) (by kernel_rfl) (by kernel_rfl) (by kernel_rfl) hS (y_skip (by rfl)) ?_
      simp only [Act.put, List.setIfInBounds_toArray, List.set_cons_zero, List.set_cons_succ]
      refine mf_yield (i := 14) (d := 84) undef rfl rfl (by kernel_rfl) (by kernel_rfl) (by kernel_rfl) (by kernel_rfl) hS (y_skip (by rfl)) ?_
      simp only [Act.put, List.setIfInBounds_toArray, List.set_cons_zero, List.set_cons_succ]
      refine mf_yield (i := 15) (d := 85) undef rfl rfl (by kernel_rfl) (by kernel_rfl) (by kernel_rfl) (by kernel_rfl) hS (y_skip (by rfl)) ?_
      simp only [Act.put, List.setIfInBounds_toArray, List.set_cons_zero, List.set_cons_succ]
      refine mf_yield (i := 16) (d := 86) undef rfl rfl (by kernel_rfl) (by kernel_rfl) (by kernel_rfl) (by kernel_rfl) hS (y_skip (by rfl)) ?_
      simp only [Act.put, List.setIfInBounds_toArray, List.set_cons_zero, List.set_cons_succ]
      refine mf_yield (i := 17) (d := 87) undef rfl rfl (by kernel_rfl) (by kernel_rfl) (by kernel_rfl) (by kernel_rfl) hS (y_skip (by rfl)) ?_
      simp only [Act.put, List.setIfInBounds_toArray, List.set_cons_zero, List.set_cons_succ]
      refine mf_yield (i := 18) (d := 88) undef rfl rfl (by kernel_rfl) (by kernel_rfl) (by kernel_rfl) (by kernel_rfl) hS (y_skip (by rfl)) ?_
      simp only [Act.put, List.setIfInBounds_toArray, List.set_cons_zero, List.set_cons_succ]
      refine mf_yield (i := 19) (d := 89) (.bool true) rfl rfl (by kernel_rfl) (by kernel_rfl) (by kernel_rfl) (by kernel_rfl) hS (y_run (by rfl) fun _ => by rfl) ?_
      simp only [Act.put, List.setIfInBounds_toArray, List.set_cons_zero, List.set_cons_succ]
      refine mf_yield (i := 20) (d := 90) (.bool true) rfl rfl (by kernel_rfl) (by kernel_rfl) (by kernel_rfl) (by kernel_rfl) hS (y_run (by rfl) fun _ => by rfl) ?_
      simp only [Act.put, List.setIfInBounds_toArray, List.set_cons_zero, List.set_cons_succ]
      refine mf_yield (i := 21) (d := 91) (.bool true) rfl rfl (by kernel_rfl) (by kernel_rfl) (by kernel_rfl) (by kernel_rfl) hS (y_run (by rfl) fun _ => by rfl) ?_
      simp only [Act.put, List.setIfInBounds_toArray, List.set_cons_zero, List.set_cons_succ]
      refine mf_yield (i := 22) (d := 92) (.pointer (some ⟨gp, 2, none⟩)) rfl rfl (by kernel_rfl) (by kernel_rfl) (by kernel_rfl) (by kernel_rfl) hS (y_fieldO (by rfl) rfl rfl (fldp 2 (by omega)) (Nat.zero_add _)) ?_
      simp only [Act.put, List.setIfInBounds_toArray, List.set_cons_zero, List.set_cons_succ]
      refine mf_yield (i := 23) (d := 93) (.int .i64 ((kb.toNat : Nat))) rfl rfl (by kernel_rfl) (by kernel_rfl) (by kernel_rfl) (by kernel_rfl) hS (y_cell1 (by rfl) rfl rfl Try.underlying3 rfl (fun w h => (cell_of_row _ _ _ _ _ _ (h.at (i := 2) rfl)).trans HQ2.out)) ?_
      simp only [Act.put, List.setIfInBounds_toArray, List.set_cons_zero, List.set_cons_succ]
      refine mf_yield (i := 24) (d := 94) (.int .u8 ((kb.toNat : Nat))) rfl rfl (by kernel_rfl) (by kernel_rfl) (by kernel_rfl) (by kernel_rfl) hS (y_run (by rfl) fun _ => by rfl) ?_
      simp only [Act.put, List.setIfInBounds_toArray, List.set_cons_zero, List.set_cons_succ]
      refine mf_yield (i := 25) (d := 95) (.int .i64 ((kb.toNat : Nat))) rfl rfl (by kernel_rfl) (by kernel_rfl) (by kernel_rfl) (by kernel_rfl) hS (y_int8 (by rfl) rfl rfl kl) ?_
      simp only [Act.put, List.setIfInBounds_toArray, List.set_cons_zero, List.set_cons_succ]
      refine mf_yield (i := 26) (d := 96) (.bool true) rfl rfl (by kernel_rfl) (by kernel_rfl) (by kernel_rfl) (by kernel_rfl) hS (y_eqlK (by rfl) rfl Try.underlying3 rfl rfl (by simp)) ?_
      simp only [Act.put, List.setIfInBounds_toArray, List.set_cons_zero, List.set_cons_succ]
      refine mf_yield (i := 27) (d := 97) (.bool true) rfl rfl (by kernel_rfl) (by kernel_rfl) (by kernel_rfl) (by kernel_rfl) hS (y_run (by rfl) fun _ => by rfl) ?_
      simp only [Act.put, List.setIfInBounds_toArray, List.set_cons_zero, List.set_cons_succ]
      refine mf_yield (i := 28) (d := 98) (.bool true) rfl rfl (by kernel_rfl) (by kernel_rfl) (by kernel_rfl) (by kernel_rfl) hS (y_run (by rfl) fun _ => by rfl) ?_
      simp only [Act.put, List.setIfInBounds_toArray, List.set_cons_zero, List.set_cons_succ]
      refine mf_yield (i := 29) (d := 99) (.pointer (some ⟨gp, 5, none⟩)) rfl rfl (by kernel_rfl) (by kernel_rfl) (by kernel_rfl) (by kernel_rfl) hS (y_fieldO (by rfl) rfl rfl (fldp 5 (by omega)) (Nat.zero_add _)) ?_
      simp only [Act.put, List.setIfInBounds_toArray, List.set_cons_zero, List.set_cons_succ]
      refine mf_yield (i := 30) (d := 100) (.string Y) rfl rfl (by kernel_rfl) (by kernel_rfl) (by kernel_rfl) (by kernel_rfl) hS (y_cell1 (by rfl) rfl rfl Try.underlying9 rfl (fun w h => (cell_of_row _ _ _ _ _ _ (h.at (i := 2) rfl)).trans HQ5.out)) ?_
      simp only [Act.put, List.setIfInBounds_toArray, List.set_cons_zero, List.set_cons_succ]
      refine mf_yield (i := 31) (d := 101) (.int .i64 ((sb.toNat : Nat))) rfl rfl (by kernel_rfl) (by kernel_rfl) (by kernel_rfl) (by kernel_rfl) hS (y_lenS (by rfl) rfl rfl HYS.out) ?_
      simp only [Act.put, List.setIfInBounds_toArray, List.set_cons_zero, List.set_cons_succ]
      refine mf_yield (i := 32) (d := 102) (.int .u8 ((sb.toNat : Nat))) rfl rfl (by kernel_rfl) (by kernel_rfl) (by kernel_rfl) (by kernel_rfl) hS (y_run (by rfl) fun _ => by rfl) ?_
      simp only [Act.put, List.setIfInBounds_toArray, List.set_cons_zero, List.set_cons_succ]
      refine mf_yield (i := 33) (d := 103) (.int .i64 ((sb.toNat : Nat))) rfl rfl (by kernel_rfl) (by kernel_rfl) (by kernel_rfl) (by kernel_rfl) hS (y_int8 (by rfl) rfl rfl sl) ?_
      simp only [Act.put, List.setIfInBounds_toArray, List.set_cons_zero, List.set_cons_succ]
      refine mf_yield (i := 34) (d := 104) (.bool true) rfl rfl (by kernel_rfl) (by kernel_rfl) (by kernel_rfl) (by kernel_rfl) hS (y_eqlK (by rfl) rfl Try.underlying3 rfl rfl (by simp)) ?_
      simp only [Act.put, List.setIfInBounds_toArray, List.set_cons_zero, List.set_cons_succ]
      refine mf_yield (i := 35) (d := 105) (.bool true) rfl rfl (by kernel_rfl) (by kernel_rfl) (by kernel_rfl) (by kernel_rfl) hS (y_run (by rfl) fun _ => by rfl) ?_
      simp only [Act.put, List.setIfInBounds_toArray, List.set_cons_zero, List.set_cons_succ]
      refine mf_yield (i := 36) (d := 6) (.bool true) rfl rfl (by kernel_rfl) (by kernel_rfl) (by kernel_rfl) (by kernel_rfl) hS (y_run (by rfl) fun _ => by rfl) ?_
      simp only [Act.put, List.setIfInBounds_toArray, List.set_cons_zero, List.set_cons_succ]
      refine mf_done (by kernel_rfl) ?_
      have HBB := Lib.hid hS.below
      clear hS
      go_wp2_with fail
      go_ret
      exact ⟨rfl, HBB.out⟩

set_option maxHeartbeats 4000000 in
theorem heads_f1 (p : Pv) (kb sb : UInt8) (w : World) (ho : p.Ok) (hd : p.d.length ≤ maxLen) (hbig : ¬ 200 < p.d.length) (hr : p.right) (hf : FormOk (fixb ((p.lay.set 12 kb).set 14 sb))) (he1 : (kb.toNat : Int) ≠ p.k) (hke : kb.toNat = 1) :
    Calls Try.prog 7 #[.agg (pgV p), .int .u8 (kb.toNat : Int), .int .u8 (sb.toNat : Int)] w fun e w' => e = .returned (.bool true) ∧ Below w.heap.size w w' := by
  have HO := Lib.hid ho
  have HD := Lib.hid hd
  have HI0 := Lib.hid ((Hv.start w).alloc (pgV p) 24)
  simp only [List.nil_append] at HI0
  have kl := kb.toNat_lt
  have sl := sb.toNat_lt
  obtain ⟨P, hP⟩ : ∃ P, pgV p = P := ⟨_, rfl⟩
  obtain ⟨X, hX⟩ : ∃ X : ByteArray, ⟨p.d.toArray⟩ = X := ⟨_, rfl⟩
  have HP := Lib.hid hP
  have HPS := Lib.hid (show P.size = 6 by rw [← hP]; rfl)
  have HX5 := Lib.hid (show P[5]? = some (.string X) by rw [← hP, ← hX]; rfl)
  have HX2 := Lib.hid (show P[2]? = some (.int .i64 p.k) by rw [← hP]; rfl)
  obtain ⟨N, hN⟩ : ∃ N, p.d.length = N := ⟨_, rfl⟩
  have hs : X.size = N := by rw [← hX, ← hN]; simp [ByteArray.size]
  have HN := Lib.hid hN
  have hz := zero_pg
  have hzp := zero_api
  rw [hP] at HI0 ⊢
  have hbig' : ¬ 200 < N := by rw [← hN]; exact hbig
  have HR := Lib.hid hr
  clear hbig hr
  have HF := Lib.hid hf
  have HE1 := Lib.hid he1
  have HKE := Lib.hid hke
  clear hf he1 hke
  clear ho hd hP hX hN
  go_enter Try.func7, Try.ntmps7
  go_wp2_with fail
  refine (awake_as _).mono ?_
  rintro e w1 ⟨rfl, hb⟩
  have HI1 := Lib.hid (HI0.out.next hb)
  clear hb
  have c5 : w1.cell? ⟨w.heap.size, 5, none⟩ = some (.string X) := by rw [cell_of_row _ _ _ _ _ _ (HI1.out.at (i := 0) rfl)]; exact HX5.out
  go_upto_region 3 with (first
    | (refine wpList_load_w rfl 24 _ rfl _ rfl (HI1.out.at (i := 0) rfl) Try.underlying24 rfl (info_rp HPS.out) ?_)
    | fail)
  go_wp2_with (first
    | (refine wpList_load_w rfl 24 _ rfl _ rfl (HI1.out.at (i := 0) rfl) Try.underlying24 rfl (info_rp HPS.out) ?_)
    | fail)
  rw [← HP.out]
  refine (of_any p _).mono ?_
  rintro e w2 ⟨rfl, hb⟩
  have HI2 := Lib.hid (HI1.out.next hb)
  clear hb
  go_wp2_with fail
  refine (lay_yes p _ HD.out HO.out HR.out).mono ?_
  rintro e w3 ⟨rfl, hb⟩
  have HI3 := Lib.hid (HI2.out.next hb)
  clear hb
  rw [HP.out]
  obtain ⟨l, hl⟩ : ∃ l, p.lay = l := ⟨_, rfl⟩
  have HEl := Lib.hid hl
  have HLl := Lib.hid (show l.length = 64 by rw [← hl]; exact Pv.lay_length HR.out)
  have HSl := Lib.hid (show (bl l).size = 64 by rw [bl_size, HLl.out])
  have HZl := Lib.hid (show (bl z64).size = 64 by rw [bl_size, z64_len])
  have H1l := Lib.hid (bl_one l)
  rw [hl]
  clear hl
  go_upto_region 4 with (first
    | (refine wpList_store_row rfl 27 _ _ rfl w3.heap.size (bl l) rfl rfl _ _ (heap_alloc_new _ _) (info_api HSl.out) (by first | rfl | rw [HZl.out, HSl.out]) H1l.out ?_)
    | fail)
  rw [World.setRow_alloc_new]
  have HI4 := Lib.hid (HI3.out.alloc (bl l) 27)
  have HGgb := Lib.hid (HI3.out.below.size)
  revert HI4 HGgb
  generalize World.alloc w3 _ = W4
  generalize w3.heap.size = gb
  intro HI4 HGgb
  simp only [List.nil_append, List.cons_append] at HI4
  have hA := HI4.out.at (i := 1) rfl
  have c12 : W4.cell? ⟨gb, 12, none⟩ = some (.int .u8 (B l 12)) := by rw [cell_of_row _ _ _ _ _ _ hA, bl_at _ 12 (by rw [HLl.out]; omega)]
  have f12 : W4.frozen? ⟨gb, 12, none⟩ = false := hA.frozen 12
  have hi5 := HI4.out.cell (i := 1) rfl 12 (.int .u8 (kb.toNat : Int))
  rw [bl_set] at hi5
  have hA5 := hi5.at (i := 1) rfl
  have c14 : (W4.setCell ⟨gb, 12, none⟩ (.int .u8 (kb.toNat : Int))).cell? ⟨gb, 14, none⟩ = some (.int .u8 (B (l.set 12 kb) 14)) := by rw [cell_of_row _ _ _ _ _ _ hA5, bl_at _ 14 (by rw [List.length_set, HLl.out]; omega)]
  have f14 : (W4.setCell ⟨gb, 12, none⟩ (.int .u8 (kb.toNat : Int))).frozen? ⟨gb, 14, none⟩ = false := hA5.frozen 14
  have hi6 := hi5.cell (i := 1) rfl 14 (.int .u8 (sb.toNat : Int))
  rw [bl_set] at hi6
  simp only [List.set_cons_succ, List.set_cons_zero] at hi6
  have HI6 := Lib.hid hi6
  clear hA hA5 hi5 hi6
  go_upto_region 7 with fail
  clear c12 f12 c14 f14
  revert HI6
  generalize World.setCell _ _ _ = W6
  intro HI6
  obtain ⟨b, hb⟩ : ∃ b, (l.set 12 kb).set 14 sb = b := ⟨_, rfl⟩
  have HBL := Lib.hid (show b.length = 64 by rw [← hb, List.length_set, List.length_set]; exact HLl.out)
  rw [hb] at HI6
  have HB := Lib.hid hb
  clear hb
  have hcv := conv_bl (HI6.out.at (i := 1) rfl) 4 60 60 (by rw [HBL.out]; omega)
  go_wp2_with fail
  refine (rsum_as b HBL.out _).mono ?_
  rintro e w7 ⟨rfl, hb⟩
  have HI7 := Lib.hid ((hb ▸ HI6.out : Hv w _ w7))
  clear hb
  go_wp2_with fail
  refine (refFour_any _ _ (moreS_lt _ _)).mono ?_
  rintro e w8 ⟨rfl, hb⟩
  have HI8 := Lib.hid (HI7.out.next hb)
  clear hb
  have hS0 : (⟨(fourL (moreS 0 (b.drop 4))).toArray⟩ : ByteArray).data.toList = fourL (moreS 0 (b.drop 4)) := rfl
  have hSs : (⟨(fourL (moreS 0 (b.drop 4))).toArray⟩ : ByteArray).size = 4 := rfl
  revert hS0 hSs
  generalize (⟨(fourL (moreS 0 (b.drop 4))).toArray⟩ : ByteArray) = SX
  intro hS0 hSs
  have HSX := Lib.hid hS0
  have HSS := Lib.hid hSs
  clear hS0 hcv
  go_wp2_with fail
  rw [← fixk_0 b] at HI8
  go_loopw [10] (fun i w' => ∃ k : Nat, k ≤ 4 ∧ i = .int .i64 k ∧ Hid (Hv w [(w.heap.size, P, 24), (gb, bl (fixk b k), 27)] w')) (fun i _ => 4 - (intOf i).toNat)
  case atStart => exact ⟨0, by omega, rfl, HI8⟩
  case round =>
    obtain ⟨k, hk, rfl, HK⟩ := hrel
    clear HI8
    by_cases hlt : k < 4
    · have hA := HK.out.at (i := 1) rfl
      have hkl := fixk_len HBL.out hk
      have c1 : wr.cell? ⟨gb, k, none⟩ = some (.int .u8 (B (fixk b k) k)) := by rw [cell_of_row _ _ _ _ _ _ hA, bl_at _ k (by rw [hkl]; omega)]
      have c2 : wr.frozen? ⟨gb, k, none⟩ = false := hA.frozen k
      have hkS : k < SX.size := by rw [HSS.out]; exact hlt
      have hn := HK.out.cell (i := 1) rfl k (.int .u8 ((((fourL (moreS 0 (b.drop 4))).getD k 0).toNat : Nat) : Int))
      rw [bl_set, fixk_put HBL.out hlt] at hn
      simp only [List.set_cons_succ, List.set_cons_zero] at hn
      have hYL : ((fourL (moreS 0 (b.drop 4))).getD k 0) = SX[k] := by
        rw [← HSX.out, gd_get _ _ (by rw [← size_list]; exact hkS)]; rfl
      rw [hYL] at hn
      have HNX := Lib.hid hn
      clear hn hYL hA HK
      go_wp2
      go_roundw
      case rel => exact ⟨k + 1, by omega, by go_num, HNX⟩
      case measure => simp [intOf]; omega
    · obtain rfl : k = 4 := by omega
      rw [fixk_4] at HK
      rw [show ((4 : Nat) : Int) = 4 from rfl]
      have HI9 := HK
      clear HK
      obtain ⟨M, hM⟩ : ∃ M, fixb b = M := ⟨_, rfl⟩
      have HM := Lib.hid hM
      have HML := Lib.hid (show M.length = 64 by rw [← hM]; exact fixb_len HBL.out)
      have HMS := Lib.hid (show SumOk M by rw [← hM]; exact fixb_sum b)
      have HMK := Lib.hid (show M = fixb ((p.lay.set 12 kb).set 14 sb) by rw [← hM, ← HB.out, ← HEl.out])
      rw [hM] at HI9
      clear hM
      have HBM := Lib.hid (show (bl M).size = 64 by rw [bl_size, HML.out])
      obtain ⟨T, hT⟩ : ∃ T, pgV Pv.zero = T := ⟨_, rfl⟩
      have HT := Lib.hid hT
      have HTS := Lib.hid (show T.size = 6 by rw [← hT]; rfl)
      have HT1 := Lib.hid (show T.all (·.oneCell') = true by rw [← hT]; exact pgV_one _)
      rw [hT] at hz
      clear hT
      rw [← HMK.out] at HF
      have hf := HF.out
      have hk12 : B M 12 = kb.toNat := by
        rw [HMK.out, fixb_B _ 12 (by omega)]
        unfold B
        rw [List.getD_eq_getElem?_getD, List.getElem?_set_ne (by omega), List.getElem?_set_self (by rw [Pv.lay_length HR.out]; omega)]
        rfl
      have hk14 : B M 14 = sb.toNat := by
        rw [HMK.out, fixb_B _ 14 (by omega)]
        unfold B
        rw [List.getD_eq_getElem?_getD, List.getElem?_set_self (by rw [List.length_set, Pv.lay_length HR.out]; omega)]
        rfl
      have hlen : (pg M).d.length = sb.toNat := by
        show ((M.drop 15).take (B M 14)).length = _
        have := hf.2.2.2.2.2.1
        rw [List.length_take, List.length_drop, HML.out, hk14]
        omega
      have HK12 := Lib.hid hk12
      have HLEN := Lib.hid hlen
      have hrd : ∀ w, Calls Try.prog 12 #[.agg (bl M)] w fun e w' => e = .returned (.tuple #[.agg (pgV (pg M)), .int .i64 0]) ∧ Below w.heap.size w w' := fun w => by
        have h := read_as M w HML.out
        rw [(rd_yes HMS.out HF.out).1, (rd_yes HMS.out HF.out).2] at h
        exact h
      obtain ⟨Q, hQ⟩ : ∃ Q, pgV (pg M) = Q := ⟨_, rfl⟩
      obtain ⟨Y, hY⟩ : ∃ Y : ByteArray, ⟨(pg M).d.toArray⟩ = Y := ⟨_, rfl⟩
      have HQS := Lib.hid (show Q.size = 6 by rw [← hQ]; rfl)
      have HQN := Lib.hid (show Q.all (·.oneCell') = true by rw [← hQ]; exact pgV_one _)
      have HQ2 := Lib.hid (show Q[2]? = some (.int .i64 (kb.toNat : Nat)) by rw [← hQ, ← hk12]; rfl)
      have HQ5 := Lib.hid (show Q[5]? = some (.string Y) by rw [← hQ, ← hY]; rfl)
      have HYS := Lib.hid (show Y.size = sb.toNat by rw [← hY, ← hlen]; simp [ByteArray.size])
      have h13 : B M 13 = 0 := hf.2.2.2.1 (by rw [hk12]; exact HKE.out)
      have HQ3 := Lib.hid (show Q[3]? = some (.bool false) by
        rw [← hQ]
        show some (Value.bool (decide (B M 13 % 2 = 1))) = _
        rw [h13]; rfl)
      have HQ4 := Lib.hid (show Q[4]? = some (.bool false) by
        rw [← hQ]
        show some (Value.bool (decide (2 ≤ B M 13))) = _
        rw [h13]; rfl)
      have HONE := Lib.hid (show (((kb.toNat : Nat) : Int) != 1) = false by rw [HKE.out]; rfl)
      clear h13
      have hpq : pEq (pg M) p = false := by
          cases h : pEq (pg M) p with
          | false => rfl
          | true => exact absurd (show ((kb.toNat : Nat) : Int) = p.k by rw [← pEq_iff.1 h]; show _ = ((B M 12 : Nat) : Int); rw [HK12.out]) HE1.out
      have HEQ := Lib.hid (show ∀ w, (Op.equalIn 10000 24 (.agg Q) (.agg P)).run Try.prog w = .ok false w from fun w => by rw [← hQ, ← HP.out, rpages_is, hpq])
      have hpl := fun w => plain_any (pg M) w
      simp only [hQ] at hrd hpl
      have HRD := Lib.hid hrd
      have HPL := Lib.hid hpl
      clear hrd hpl hQ hY hpq hk12 hk14 hlen hf
      go_wp2_with (first
        | (refine wpList_load_w rfl 27 _ rfl _ rfl (HI9.out.at (i := 1) rfl) Try.underlying27 rfl (info_api HBM.out) ?_)
        | fail)
      refine (HRD.out _).mono ?_
      rintro e w10 ⟨rfl, hb⟩
      have HI10 := Lib.hid (HI9.out.next hb)
      clear hb
      go_upto_region 13 with (first
        | (refine wpList_store_row rfl 31 _ _ rfl w10.heap.size Q rfl rfl _ _ (heap_alloc_new _ _) (info_pg HQS.out) (by rw [HQS.out, HTS.out]) HQN.out ?_)
        | fail)
      rw [World.setRow_alloc_new]
      have HI11 := Lib.hid (HI10.out.alloc Q 31)
      have HGgp := Lib.hid (HI10.out.below.size)
      revert HI11 HGgp
      generalize World.alloc w10 _ = W11
      generalize w10.heap.size = gp
      intro HI11 HGgp
      simp only [List.nil_append, List.cons_append] at HI11
      have c2 : W11.cell? ⟨w.heap.size, 2, none⟩ = some (.int .i64 p.k) := by rw [cell_of_row _ _ _ _ _ _ (HI11.out.at (i := 0) rfl)]; exact HX2.out
      have c5' : W11.cell? ⟨w.heap.size, 5, none⟩ = some (.string X) := by rw [cell_of_row _ _ _ _ _ _ (HI11.out.at (i := 0) rfl)]; exact HX5.out
      have e1 : (((kb.toNat : Nat) : Int) == p.k) = false := beq_eq_false_iff_ne.2 HE1.out
      go_wp2_with fail
      refine mf_start (Hv w [(w.heap.size, P, 24), (gb, bl M, 27), (gp, Q, 31)]) (fun _ => false) HI11.out.drew fun hS => ?_
      refine mf_yield (i := 0) (d := 70) (.bool false) rfl rfl (by kernel_rfl) (by kernel_rfl) (by kernel_rfl) (by kernel_rfl) hS (y_run (by rfl) fun _ => by rfl) ?_
      simp only [Act.put, List.setIfInBounds_toArray, List.set_cons_zero, List.set_cons_succ]
      refine mf_yield (i := 1) (d := 71) (.agg Q) rfl rfl (by kernel_rfl) (by kernel_rfl) (by kernel_rfl) (by kernel_rfl) hS (y_load_w (by rfl) rfl rfl (fun w' h => h.at (i := 2) rfl) Try.underlying31 rfl (info_pg HQS.out)) ?_
      simp only [Act.put, List.setIfInBounds_toArray, List.set_cons_zero, List.set_cons_succ]
      refine mf_yield (i := 3) (d := 73) (.agg P) rfl rfl (by kernel_rfl) (by kernel_rfl) (by kernel_rfl) (by kernel_rfl) hS (y_load_w (by rfl) rfl rfl (fun w' h => h.at (i := 0) rfl) Try.underlying24 rfl (info_rp HPS.out)) ?_
      simp only [Act.put, List.setIfInBounds_toArray, List.set_cons_zero, List.set_cons_succ]
      refine mf_ready [2] (by kernel_rfl) (by simp) (af_call (i := 2) (d := 72) (R := fun v w' => v = .agg Q ∧ Hv w [(w.heap.size, P, 24), (gb, bl M, 27), (gp, Q, 31)] w') #[.agg Q] rfl rfl (by rfl) rfl enter_plain (by kernel_rfl) ((HPL.out _).mono fun e w' h => ⟨_, h.1, rfl, hS.next h.2⟩) (fun v w' h => h.2) ?_ AllReadyF.nil)
      rintro v v2 ⟨rfl, h10⟩ hS10
      clear hS h10
      have hS := hS10
      clear hS10
      simp only [Act.put, List.setIfInBounds_toArray, List.set_cons_zero, List.set_cons_succ]
      refine mf_yield (i := 4) (d := 74) (.bool false) rfl rfl (by kernel_rfl) (by kernel_rfl) (by kernel_rfl) (by kernel_rfl) hS (y_eql (b := false) (by rfl) rfl rfl rfl (by kernel_rfl) HEQ.out) ?_
      simp only [Act.put, List.setIfInBounds_toArray, List.set_cons_zero, List.set_cons_succ]
      refine mf_yield (i := 5) (d := 75) (.bool true) rfl rfl (by kernel_rfl) (by kernel_rfl) (by kernel_rfl) (by kernel_rfl) hS (y_eqlB (by rfl) rfl rfl rfl (by rfl)) ?_
      simp only [Act.put, List.setIfInBounds_toArray, List.set_cons_zero, List.set_cons_succ]
      refine mf_yield (i := 6) (d := 76) (.bool true) rfl rfl (by kernel_rfl) (by kernel_rfl) (by kernel_rfl) (by kernel_rfl) hS (y_run (by rfl) fun _ => by rfl) ?_
      simp only [Act.put, List.setIfInBounds_toArray, List.set_cons_zero, List.set_cons_succ]
      refine mf_yield (i := 7) (d := 77) (.pointer (some ⟨gp, 2, none⟩)) rfl rfl (by kernel_rfl) (by kernel_rfl) (by kernel_rfl) (by kernel_rfl) hS (y_fieldO (by rfl) rfl rfl (fldp 2 (by omega)) (Nat.zero_add _)) ?_
      simp only [Act.put, List.setIfInBounds_toArray, List.set_cons_zero, List.set_cons_succ]
      refine mf_yield (i := 8) (d := 78) (.int .i64 ((kb.toNat : Nat))) rfl rfl (by kernel_rfl) (by kernel_rfl) (by kernel_rfl) (by kernel_rfl) hS (y_cell1 (by rfl) rfl rfl Try.underlying3 rfl (fun w h => (cell_of_row _ _ _ _ _ _ (h.at (i := 2) rfl)).trans HQ2.out)) ?_
      simp only [Act.put, List.setIfInBounds_toArray, List.set_cons_zero, List.set_cons_succ]
      refine mf_yield (i := 9) (d := 79) (.bool false) rfl rfl (by kernel_rfl) (by kernel_rfl) (by kernel_rfl) (by kernel_rfl) hS (y_neqK (by rfl) rfl Try.underlying3 rfl rfl HONE.out) ?_
      simp only [Act.put, List.setIfInBounds_toArray, List.set_cons_zero, List.set_cons_succ]
      refine mf_yield (i := 10) (d := 80) (.bool false) rfl rfl (by kernel_rfl) (by kernel_rfl) (by kernel_rfl) (by kernel_rfl) hS (y_run (by rfl) fun _ => by rfl) ?_
      simp only [Act.put, List.setIfInBounds_toArray, List.set_cons_zero, List.set_cons_succ]
      refine mf_yield (i := 11) (d := 81) (.pointer (some ⟨gp, 3, none⟩)) rfl rfl (by kernel_rfl) (by kernel_rfl) (by kernel_rfl) (by kernel_rfl) hS (y_fieldO (by rfl) rfl rfl (fldp 3 (by omega)) (Nat.zero_add _)) ?_
      simp only [Act.put, List.setIfInBounds_toArray, List.set_cons_zero, List.set_cons_succ]
      refine mf_yield (i := 12) (d := 82) (.bool false) rfl rfl (by kernel_rfl) (by kernel_rfl) (by kernel_rfl) (by kernel_rfl) hS (y_cell1 (by rfl) rfl rfl Try.underlying4 rfl (fun w h => (cell_of_row _ _ _ _ _ _ (h.at (i := 2) rfl)).trans HQ3.out)) ?_
      simp only [Act.put, List.setIfInBounds_toArray, List.set_cons_zero, List.set_cons_succ]
      refine mf_yield (i := 13) (d := 83) (.bool true) rfl rfl (by kernel_rfl) (by kernel_rfl) (by kernel_rfl) (by kernel_rfl) hS (y_not (b := false) (by rfl) rfl rfl) ?_
      simp only [Act.put, List.setIfInBounds_toArray, List.set_cons_zero, List.set_cons_succ]
      refine mf_yield (i := 14) (d := 84) (.bool true) rfl rfl (by kernel_rfl) (by kernel_rfl) (by kernel_rfl) (by kernel_rfl) hS (y_run (by rfl) fun _ => by rfl) ?_
      simp only [Act.put, List.setIfInBounds_toArray, List.set_cons_zero, List.set_cons_succ]
      refine mf_yield (i := 15) (d := 85) (.pointer (some ⟨gp, 4, none⟩)) rfl rfl (by kernel_rfl) (by kernel_rfl) (by kernel_rfl) (by kernel_rfl) hS (y_fieldO (by rfl) rfl rfl (fldp 4 (by omega)) (Nat.zero_add _)) ?_
      simp only [Act.put, List.setIfInBounds_toArray, List.set_cons_zero, List.set_cons_succ]
      refine mf_yield (i := 16) (d := 86) (.bool false) rfl rfl (by kernel_rfl) (by kernel_rfl) (by kernel_rfl) (by kernel_rfl) hS (y_cell1 (by rfl) rfl rfl Try.underlying4 rfl (fun w h => (cell_of_row _ _ _ _ _ _ (h.at (i := 2) rfl)).trans HQ4.out)) ?_
      simp only [Act.put, List.setIfInBounds_toArray, List.set_cons_zero, List.set_cons_succ]
      refine mf_yield (i := 17) (d := 87) (.bool true) rfl rfl (by kernel_rfl) (by kernel_rfl) (by kernel_rfl) (by kernel_rfl) hS (y_not (b := false) (by rfl) rfl rfl) ?_
      simp only [Act.put, List.setIfInBounds_toArray, List.set_cons_zero, List.set_cons_succ]
      refine mf_yield (i := 18) (d := 88) (.bool true) rfl rfl (by kernel_rfl) (by kernel_rfl) (by kernel_rfl) (by kernel_rfl) hS (y_run (by rfl) fun _ => by rfl) ?_
      simp only [Act.put, List.setIfInBounds_toArray, List.set_cons_zero, List.set_cons_succ]
      refine mf_yield (i := 19) (d := 89) (.bool true) rfl rfl (by kernel_rfl) (by kernel_rfl) (by kernel_rfl) (by kernel_rfl) hS (y_run (by rfl) fun _ => by rfl) ?_
      simp only [Act.put, List.setIfInBounds_toArray, List.set_cons_zero, List.set_cons_succ]
      refine mf_yield (i := 20) (d := 90) (.bool true) rfl rfl (by kernel_rfl) (by kernel_rfl) (by kernel_rfl) (by kernel_rfl) hS (y_run (by rfl) fun _ => by rfl) ?_
      simp only [Act.put, List.setIfInBounds_toArray, List.set_cons_zero, List.set_cons_succ]
      refine mf_yield (i := 21) (d := 91) (.bool true) rfl rfl (by kernel_rfl) (by kernel_rfl) (by kernel_rfl) (by kernel_rfl) hS (y_run (by rfl) fun _ => by rfl) ?_
      simp only [Act.put, List.setIfInBounds_toArray, List.set_cons_zero, List.set_cons_succ]
      refine mf_yield (i := 22) (d := 92) (.pointer (some ⟨gp, 2, none⟩)) rfl rfl (by kernel_rfl) (by kernel_rfl) (by kernel_rfl) (by kernel_rfl) hS (y_fieldO (by rfl) rfl rfl (fldp 2 (by omega)) (Nat.zero_add _)) ?_
      simp only [Act.put, List.setIfInBounds_toArray, List.set_cons_zero, List.set_cons_succ]
      refine mf_yield (i := 23) (d := 93) (.int .i64 ((kb.toNat : Nat))) rfl rfl (by kernel_rfl) (by kernel_rfl) (by kernel_rfl) (by kernel_rfl) hS (y_cell1 (by rfl) rfl rfl Try.underlying3 rfl (fun w h => (cell_of_row _ _ _ _ _ _ (h.at (i := 2) rfl)).trans HQ2.out)) ?_
      simp only [Act.put, List.setIfInBounds_toArray, List.set_cons_zero, List.set_cons_succ]
      refine mf_yield (i := 24) (d := 94) (.int .u8 ((kb.toNat : Nat))) rfl rfl (by kernel_rfl) (by kernel_rfl) (by kernel_rfl) (by kernel_rfl) hS (y_run (by rfl) fun _ => by rfl) ?_
      simp only [Act.put, List.setIfInBounds_toArray, List.set_cons_zero, List.set_cons_succ]
      refine mf_yield (i := 25) (d := 95) (.int .i64 ((kb.toNat : Nat))) rfl rfl (by kernel_rfl) (by kernel_rfl) (by kernel_rfl) (by kernel_rfl) hS (y_int8 (by rfl) rfl rfl kl) ?_
      simp only [Act.put, List.setIfInBounds_toArray, List.set_cons_zero, List.set_cons_succ]
      refine mf_yield (i := 26) (d := 96) (.bool true) rfl rfl (by kernel_rfl) (by kernel_rfl) (by kernel_rfl) (by kernel_rfl) hS (y_eqlK (by rfl) rfl Try.underlying3 rfl rfl (by simp)) ?_
      simp only [Act.put, List.setIfInBounds_toArray, List.set_cons_zero, List.set_cons_succ]
      refine mf_yield (i := 27) (d := 97) (.bool true) rfl rfl (by kernel_rfl) (by kernel_rfl) (by kernel_rfl) (by kernel_rfl) hS (y_run (by rfl) fun _ => by rfl) ?_
      simp only [Act.put, List.setIfInBounds_toArray, List.set_cons_zero, List.set_cons_succ]
      refine mf_yield (i := 28) (d := 98) (.bool true) rfl rfl (by kernel_rfl) (by kernel_rfl) (by kernel_rfl) (by kernel_rfl) hS (y_run (by rfl) fun _ => by rfl) ?_
      simp only [Act.put, List.setIfInBounds_toArray, List.set_cons_zero, List.set_cons_succ]
      refine mf_yield (i := 29) (d := 99) (.pointer (some ⟨gp, 5, none⟩)) rfl rfl (by kernel_rfl) (by kernel_rfl) (by kernel_rfl) (by kernel_rfl) hS (y_fieldO (by rfl) rfl rfl (fldp 5 (by omega)) (Nat.zero_add _)) ?_
      simp only [Act.put, List.setIfInBounds_toArray, List.set_cons_zero, List.set_cons_succ]
      refine mf_yield (i := 30) (d := 100) (.string Y) rfl rfl (by kernel_rfl) (by kernel_rfl) (by kernel_rfl) (by kernel_rfl) hS (y_cell1 (by rfl) rfl rfl Try.underlying9 rfl (fun w h => (cell_of_row _ _ _ _ _ _ (h.at (i := 2) rfl)).trans HQ5.out)) ?_
      simp only [Act.put, List.setIfInBounds_toArray, List.set_cons_zero, List.set_cons_succ]
      refine mf_yield (i := 31) (d := 101) (.int .i64 ((sb.toNat : Nat))) rfl rfl (by kernel_rfl) (by kernel_rfl) (by kernel_rfl) (by kernel_rfl) hS (y_lenS (by rfl) rfl rfl HYS.out) ?_
      simp only [Act.put, List.setIfInBounds_toArray, List.set_cons_zero, List.set_cons_succ]
      refine mf_yield (i := 32) (d := 102) (.int .u8 ((sb.toNat : Nat))) rfl rfl (by kernel_rfl) (by kernel_rfl) (by kernel_rfl) (by kernel_rfl) hS (y_run (by rfl) fun _ => by rfl) ?_
      simp only [Act.put, List.setIfInBounds_toArray, List.set_cons_zero, List.set_cons_succ]
      refine mf_yield (i := 33) (d := 103) (.int .i64 ((sb.toNat : Nat))) rfl rfl (by kernel_rfl) (by kernel_rfl) (by kernel_rfl) (by kernel_rfl) hS (y_int8 (by rfl) rfl rfl sl) ?_
      simp only [Act.put, List.setIfInBounds_toArray, List.set_cons_zero, List.set_cons_succ]
      refine mf_yield (i := 34) (d := 104) (.bool true) rfl rfl (by kernel_rfl) (by kernel_rfl) (by kernel_rfl) (by kernel_rfl) hS (y_eqlK (by rfl) rfl Try.underlying3 rfl rfl (by simp)) ?_
      simp only [Act.put, List.setIfInBounds_toArray, List.set_cons_zero, List.set_cons_succ]
      refine mf_yield (i := 35) (d := 105) (.bool true) rfl rfl (by kernel_rfl) (by kernel_rfl) (by kernel_rfl) (by kernel_rfl) hS (y_run (by rfl) fun _ => by rfl) ?_
      simp only [Act.put, List.setIfInBounds_toArray, List.set_cons_zero, List.set_cons_succ]
      refine mf_yield (i := 36) (d := 6) (.bool true) rfl rfl (by kernel_rfl) (by kernel_rfl) (by kernel_rfl) (by kernel_rfl) hS (y_run (by rfl) fun _ => by rfl) ?_
      simp only [Act.put, List.setIfInBounds_toArray, List.set_cons_zero, List.set_cons_succ]
      refine mf_done (by kernel_rfl) ?_
      have HBB := Lib.hid hS.below
      clear hS
      go_wp2_with fail
      go_ret
      exact ⟨rfl, HBB.out⟩

set_option maxHeartbeats 4000000 in
theorem heads_f2 (p : Pv) (kb sb : UInt8) (w : World) (ho : p.Ok) (hd : p.d.length ≤ maxLen) (hbig : ¬ 200 < p.d.length) (hr : p.right) (hf : FormOk (fixb ((p.lay.set 12 kb).set 14 sb))) (he1 : (kb.toNat : Int) ≠ p.k) (hke : kb.toNat ≠ 1) :
    Calls Try.prog 7 #[.agg (pgV p), .int .u8 (kb.toNat : Int), .int .u8 (sb.toNat : Int)] w fun e w' => e = .returned (.bool true) ∧ Below w.heap.size w w' := by
  have HO := Lib.hid ho
  have HD := Lib.hid hd
  have HI0 := Lib.hid ((Hv.start w).alloc (pgV p) 24)
  simp only [List.nil_append] at HI0
  have kl := kb.toNat_lt
  have sl := sb.toNat_lt
  obtain ⟨P, hP⟩ : ∃ P, pgV p = P := ⟨_, rfl⟩
  obtain ⟨X, hX⟩ : ∃ X : ByteArray, ⟨p.d.toArray⟩ = X := ⟨_, rfl⟩
  have HP := Lib.hid hP
  have HPS := Lib.hid (show P.size = 6 by rw [← hP]; rfl)
  have HX5 := Lib.hid (show P[5]? = some (.string X) by rw [← hP, ← hX]; rfl)
  have HX2 := Lib.hid (show P[2]? = some (.int .i64 p.k) by rw [← hP]; rfl)
  obtain ⟨N, hN⟩ : ∃ N, p.d.length = N := ⟨_, rfl⟩
  have hs : X.size = N := by rw [← hX, ← hN]; simp [ByteArray.size]
  have HN := Lib.hid hN
  have hz := zero_pg
  have hzp := zero_api
  rw [hP] at HI0 ⊢
  have hbig' : ¬ 200 < N := by rw [← hN]; exact hbig
  have HR := Lib.hid hr
  clear hbig hr
  have HF := Lib.hid hf
  have HE1 := Lib.hid he1
  have HKE := Lib.hid hke
  clear hf he1 hke
  clear ho hd hP hX hN
  go_enter Try.func7, Try.ntmps7
  go_wp2_with fail
  refine (awake_as _).mono ?_
  rintro e w1 ⟨rfl, hb⟩
  have HI1 := Lib.hid (HI0.out.next hb)
  clear hb
  have c5 : w1.cell? ⟨w.heap.size, 5, none⟩ = some (.string X) := by rw [cell_of_row _ _ _ _ _ _ (HI1.out.at (i := 0) rfl)]; exact HX5.out
  go_upto_region 3 with (first
    | (refine wpList_load_w rfl 24 _ rfl _ rfl (HI1.out.at (i := 0) rfl) Try.underlying24 rfl (info_rp HPS.out) ?_)
    | fail)
  go_wp2_with (first
    | (refine wpList_load_w rfl 24 _ rfl _ rfl (HI1.out.at (i := 0) rfl) Try.underlying24 rfl (info_rp HPS.out) ?_)
    | fail)
  rw [← HP.out]
  refine (of_any p _).mono ?_
  rintro e w2 ⟨rfl, hb⟩
  have HI2 := Lib.hid (HI1.out.next hb)
  clear hb
  go_wp2_with fail
  refine (lay_yes p _ HD.out HO.out HR.out).mono ?_
  rintro e w3 ⟨rfl, hb⟩
  have HI3 := Lib.hid (HI2.out.next hb)
  clear hb
  rw [HP.out]
  obtain ⟨l, hl⟩ : ∃ l, p.lay = l := ⟨_, rfl⟩
  have HEl := Lib.hid hl
  have HLl := Lib.hid (show l.length = 64 by rw [← hl]; exact Pv.lay_length HR.out)
  have HSl := Lib.hid (show (bl l).size = 64 by rw [bl_size, HLl.out])
  have HZl := Lib.hid (show (bl z64).size = 64 by rw [bl_size, z64_len])
  have H1l := Lib.hid (bl_one l)
  rw [hl]
  clear hl
  go_upto_region 4 with (first
    | (refine wpList_store_row rfl 27 _ _ rfl w3.heap.size (bl l) rfl rfl _ _ (heap_alloc_new _ _) (info_api HSl.out) (by first | rfl | rw [HZl.out, HSl.out]) H1l.out ?_)
    | fail)
  rw [World.setRow_alloc_new]
  have HI4 := Lib.hid (HI3.out.alloc (bl l) 27)
  have HGgb := Lib.hid (HI3.out.below.size)
  revert HI4 HGgb
  generalize World.alloc w3 _ = W4
  generalize w3.heap.size = gb
  intro HI4 HGgb
  simp only [List.nil_append, List.cons_append] at HI4
  have hA := HI4.out.at (i := 1) rfl
  have c12 : W4.cell? ⟨gb, 12, none⟩ = some (.int .u8 (B l 12)) := by rw [cell_of_row _ _ _ _ _ _ hA, bl_at _ 12 (by rw [HLl.out]; omega)]
  have f12 : W4.frozen? ⟨gb, 12, none⟩ = false := hA.frozen 12
  have hi5 := HI4.out.cell (i := 1) rfl 12 (.int .u8 (kb.toNat : Int))
  rw [bl_set] at hi5
  have hA5 := hi5.at (i := 1) rfl
  have c14 : (W4.setCell ⟨gb, 12, none⟩ (.int .u8 (kb.toNat : Int))).cell? ⟨gb, 14, none⟩ = some (.int .u8 (B (l.set 12 kb) 14)) := by rw [cell_of_row _ _ _ _ _ _ hA5, bl_at _ 14 (by rw [List.length_set, HLl.out]; omega)]
  have f14 : (W4.setCell ⟨gb, 12, none⟩ (.int .u8 (kb.toNat : Int))).frozen? ⟨gb, 14, none⟩ = false := hA5.frozen 14
  have hi6 := hi5.cell (i := 1) rfl 14 (.int .u8 (sb.toNat : Int))
  rw [bl_set] at hi6
  simp only [List.set_cons_succ, List.set_cons_zero] at hi6
  have HI6 := Lib.hid hi6
  clear hA hA5 hi5 hi6
  go_upto_region 7 with fail
  clear c12 f12 c14 f14
  revert HI6
  generalize World.setCell _ _ _ = W6
  intro HI6
  obtain ⟨b, hb⟩ : ∃ b, (l.set 12 kb).set 14 sb = b := ⟨_, rfl⟩
  have HBL := Lib.hid (show b.length = 64 by rw [← hb, List.length_set, List.length_set]; exact HLl.out)
  rw [hb] at HI6
  have HB := Lib.hid hb
  clear hb
  have hcv := conv_bl (HI6.out.at (i := 1) rfl) 4 60 60 (by rw [HBL.out]; omega)
  go_wp2_with fail
  refine (rsum_as b HBL.out _).mono ?_
  rintro e w7 ⟨rfl, hb⟩
  have HI7 := Lib.hid ((hb ▸ HI6.out : Hv w _ w7))
  clear hb
  go_wp2_with fail
  refine (refFour_any _ _ (moreS_lt _ _)).mono ?_
  rintro e w8 ⟨rfl, hb⟩
  have HI8 := Lib.hid (HI7.out.next hb)
  clear hb
  have hS0 : (⟨(fourL (moreS 0 (b.drop 4))).toArray⟩ : ByteArray).data.toList = fourL (moreS 0 (b.drop 4)) := rfl
  have hSs : (⟨(fourL (moreS 0 (b.drop 4))).toArray⟩ : ByteArray).size = 4 := rfl
  revert hS0 hSs
  generalize (⟨(fourL (moreS 0 (b.drop 4))).toArray⟩ : ByteArray) = SX
  intro hS0 hSs
  have HSX := Lib.hid hS0
  have HSS := Lib.hid hSs
  clear hS0 hcv
  go_wp2_with fail
  rw [← fixk_0 b] at HI8
  go_loopw [10] (fun i w' => ∃ k : Nat, k ≤ 4 ∧ i = .int .i64 k ∧ Hid (Hv w [(w.heap.size, P, 24), (gb, bl (fixk b k), 27)] w')) (fun i _ => 4 - (intOf i).toNat)
  case atStart => exact ⟨0, by omega, rfl, HI8⟩
  case round =>
    obtain ⟨k, hk, rfl, HK⟩ := hrel
    clear HI8
    by_cases hlt : k < 4
    · have hA := HK.out.at (i := 1) rfl
      have hkl := fixk_len HBL.out hk
      have c1 : wr.cell? ⟨gb, k, none⟩ = some (.int .u8 (B (fixk b k) k)) := by rw [cell_of_row _ _ _ _ _ _ hA, bl_at _ k (by rw [hkl]; omega)]
      have c2 : wr.frozen? ⟨gb, k, none⟩ = false := hA.frozen k
      have hkS : k < SX.size := by rw [HSS.out]; exact hlt
      have hn := HK.out.cell (i := 1) rfl k (.int .u8 ((((fourL (moreS 0 (b.drop 4))).getD k 0).toNat : Nat) : Int))
      rw [bl_set, fixk_put HBL.out hlt] at hn
      simp only [List.set_cons_succ, List.set_cons_zero] at hn
      have hYL : ((fourL (moreS 0 (b.drop 4))).getD k 0) = SX[k] := by
        rw [← HSX.out, gd_get _ _ (by rw [← size_list]; exact hkS)]; rfl
      rw [hYL] at hn
      have HNX := Lib.hid hn
      clear hn hYL hA HK
      go_wp2
      go_roundw
      case rel => exact ⟨k + 1, by omega, by go_num, HNX⟩
      case measure => simp [intOf]; omega
    · obtain rfl : k = 4 := by omega
      rw [fixk_4] at HK
      rw [show ((4 : Nat) : Int) = 4 from rfl]
      have HI9 := HK
      clear HK
      obtain ⟨M, hM⟩ : ∃ M, fixb b = M := ⟨_, rfl⟩
      have HM := Lib.hid hM
      have HML := Lib.hid (show M.length = 64 by rw [← hM]; exact fixb_len HBL.out)
      have HMS := Lib.hid (show SumOk M by rw [← hM]; exact fixb_sum b)
      have HMK := Lib.hid (show M = fixb ((p.lay.set 12 kb).set 14 sb) by rw [← hM, ← HB.out, ← HEl.out])
      rw [hM] at HI9
      clear hM
      have HBM := Lib.hid (show (bl M).size = 64 by rw [bl_size, HML.out])
      obtain ⟨T, hT⟩ : ∃ T, pgV Pv.zero = T := ⟨_, rfl⟩
      have HT := Lib.hid hT
      have HTS := Lib.hid (show T.size = 6 by rw [← hT]; rfl)
      have HT1 := Lib.hid (show T.all (·.oneCell') = true by rw [← hT]; exact pgV_one _)
      rw [hT] at hz
      clear hT
      rw [← HMK.out] at HF
      have hf := HF.out
      have hk12 : B M 12 = kb.toNat := by
        rw [HMK.out, fixb_B _ 12 (by omega)]
        unfold B
        rw [List.getD_eq_getElem?_getD, List.getElem?_set_ne (by omega), List.getElem?_set_self (by rw [Pv.lay_length HR.out]; omega)]
        rfl
      have hk14 : B M 14 = sb.toNat := by
        rw [HMK.out, fixb_B _ 14 (by omega)]
        unfold B
        rw [List.getD_eq_getElem?_getD, List.getElem?_set_self (by rw [List.length_set, Pv.lay_length HR.out]; omega)]
        rfl
      have hlen : (pg M).d.length = sb.toNat := by
        show ((M.drop 15).take (B M 14)).length = _
        have := hf.2.2.2.2.2.1
        rw [List.length_take, List.length_drop, HML.out, hk14]
        omega
      have HK12 := Lib.hid hk12
      have HLEN := Lib.hid hlen
      have hrd : ∀ w, Calls Try.prog 12 #[.agg (bl M)] w fun e w' => e = .returned (.tuple #[.agg (pgV (pg M)), .int .i64 0]) ∧ Below w.heap.size w w' := fun w => by
        have h := read_as M w HML.out
        rw [(rd_yes HMS.out HF.out).1, (rd_yes HMS.out HF.out).2] at h
        exact h
      obtain ⟨Q, hQ⟩ : ∃ Q, pgV (pg M) = Q := ⟨_, rfl⟩
      obtain ⟨Y, hY⟩ : ∃ Y : ByteArray, ⟨(pg M).d.toArray⟩ = Y := ⟨_, rfl⟩
      have HQS := Lib.hid (show Q.size = 6 by rw [← hQ]; rfl)
      have HQN := Lib.hid (show Q.all (·.oneCell') = true by rw [← hQ]; exact pgV_one _)
      have HQ2 := Lib.hid (show Q[2]? = some (.int .i64 (kb.toNat : Nat)) by rw [← hQ, ← hk12]; rfl)
      have HQ5 := Lib.hid (show Q[5]? = some (.string Y) by rw [← hQ, ← hY]; rfl)
      have HYS := Lib.hid (show Y.size = sb.toNat by rw [← hY, ← hlen]; simp [ByteArray.size])
      have HONE := Lib.hid (show (((kb.toNat : Nat) : Int) != 1) = true by have := HKE.out; rw [bne_iff_ne]; omega)
      have hpq : pEq (pg M) p = false := by
          cases h : pEq (pg M) p with
          | false => rfl
          | true => exact absurd (show ((kb.toNat : Nat) : Int) = p.k by rw [← pEq_iff.1 h]; show _ = ((B M 12 : Nat) : Int); rw [HK12.out]) HE1.out
      have HEQ := Lib.hid (show ∀ w, (Op.equalIn 10000 24 (.agg Q) (.agg P)).run Try.prog w = .ok false w from fun w => by rw [← hQ, ← HP.out, rpages_is, hpq])
      have hpl := fun w => plain_any (pg M) w
      simp only [hQ] at hrd hpl
      have HRD := Lib.hid hrd
      have HPL := Lib.hid hpl
      clear hrd hpl hQ hY hpq hk12 hk14 hlen hf
      go_wp2_with (first
        | (refine wpList_load_w rfl 27 _ rfl _ rfl (HI9.out.at (i := 1) rfl) Try.underlying27 rfl (info_api HBM.out) ?_)
        | fail)
      refine (HRD.out _).mono ?_
      rintro e w10 ⟨rfl, hb⟩
      have HI10 := Lib.hid (HI9.out.next hb)
      clear hb
      go_upto_region 13 with (first
        | (refine wpList_store_row rfl 31 _ _ rfl w10.heap.size Q rfl rfl _ _ (heap_alloc_new _ _) (info_pg HQS.out) (by rw [HQS.out, HTS.out]) HQN.out ?_)
        | fail)
      rw [World.setRow_alloc_new]
      have HI11 := Lib.hid (HI10.out.alloc Q 31)
      have HGgp := Lib.hid (HI10.out.below.size)
      revert HI11 HGgp
      generalize World.alloc w10 _ = W11
      generalize w10.heap.size = gp
      intro HI11 HGgp
      simp only [List.nil_append, List.cons_append] at HI11
      have c2 : W11.cell? ⟨w.heap.size, 2, none⟩ = some (.int .i64 p.k) := by rw [cell_of_row _ _ _ _ _ _ (HI11.out.at (i := 0) rfl)]; exact HX2.out
      have c5' : W11.cell? ⟨w.heap.size, 5, none⟩ = some (.string X) := by rw [cell_of_row _ _ _ _ _ _ (HI11.out.at (i := 0) rfl)]; exact HX5.out
      have e1 : (((kb.toNat : Nat) : Int) == p.k) = false := beq_eq_false_iff_ne.2 HE1.out
      go_wp2_with fail
      refine mf_start (Hv w [(w.heap.size, P, 24), (gb, bl M, 27), (gp, Q, 31)]) (fun _ => false) HI11.out.drew fun hS => ?_
      refine mf_yield (i := 0) (d := 70) (.bool false) rfl rfl (by kernel_rfl) (by kernel_rfl) (by kernel_rfl) (by kernel_rfl) hS (y_run (by rfl) fun _ => by rfl) ?_
      simp only [Act.put, List.setIfInBounds_toArray, List.set_cons_zero, List.set_cons_succ]
      refine mf_yield (i := 1) (d := 71) (.agg Q) rfl rfl (by kernel_rfl) (by kernel_rfl) (by kernel_rfl) (by kernel_rfl) hS (y_load_w (by rfl) rfl rfl (fun w' h => h.at (i := 2) rfl) Try.underlying31 rfl (info_pg HQS.out)) ?_
      simp only [Act.put, List.setIfInBounds_toArray, List.set_cons_zero, List.set_cons_succ]
      refine mf_yield (i := 3) (d := 73) (.agg P) rfl rfl (by kernel_rfl) (by kernel_rfl) (by kernel_rfl) (by kernel_rfl) hS (y_load_w (by rfl) rfl rfl (fun w' h => h.at (i := 0) rfl) Try.underlying24 rfl (info_rp HPS.out)) ?_
      simp only [Act.put, List.setIfInBounds_toArray, List.set_cons_zero, List.set_cons_succ]
      refine mf_ready [2] (by kernel_rfl) (by simp) (af_call (i := 2) (d := 72) (R := fun v w' => v = .agg Q ∧ Hv w [(w.heap.size, P, 24), (gb, bl M, 27), (gp, Q, 31)] w') #[.agg Q] rfl rfl (by rfl) rfl enter_plain (by kernel_rfl) ((HPL.out _).mono fun e w' h => ⟨_, h.1, rfl, hS.next h.2⟩) (fun v w' h => h.2) ?_ AllReadyF.nil)
      rintro v v2 ⟨rfl, h10⟩ hS10
      clear hS h10
      have hS := hS10
      clear hS10
      simp only [Act.put, List.setIfInBounds_toArray, List.set_cons_zero, List.set_cons_succ]
      refine mf_yield (i := 4) (d := 74) (.bool false) rfl rfl (by kernel_rfl) (by kernel_rfl) (by kernel_rfl) (by kernel_rfl) hS (y_eql (b := false) (by rfl) rfl rfl rfl (by kernel_rfl) HEQ.out) ?_
      simp only [Act.put, List.setIfInBounds_toArray, List.set_cons_zero, List.set_cons_succ]
      refine mf_yield (i := 5) (d := 75) (.bool true) rfl rfl (by kernel_rfl) (by kernel_rfl) (by kernel_rfl) (by kernel_rfl) hS (y_eqlB (by rfl) rfl rfl rfl (by rfl)) ?_
      simp only [Act.put, List.setIfInBounds_toArray, List.set_cons_zero, List.set_cons_succ]
      refine mf_yield (i := 6) (d := 76) (.bool true) rfl rfl (by kernel_rfl) (by kernel_rfl) (by kernel_rfl) (by kernel_rfl) hS (y_run (by rfl) fun _ => by rfl) ?_
      simp only [Act.put, List.setIfInBounds_toArray, List.set_cons_zero, List.set_cons_succ]
      refine mf_yield (i := 7) (d := 77) (.pointer (some ⟨gp, 2, none⟩)) rfl rfl (by kernel_rfl) (by kernel_rfl) (by kernel_rfl) (by kernel_rfl) hS (y_fieldO (by rfl) rfl rfl (fldp 2 (by omega)) (Nat.zero_add _)) ?_
      simp only [Act.put, List.setIfInBounds_toArray, List.set_cons_zero, List.set_cons_succ]
      refine mf_yield (i := 8) (d := 78) (.int .i64 ((kb.toNat : Nat))) rfl rfl (by kernel_rfl) (by kernel_rfl) (by kernel_rfl) (by kernel_rfl) hS (y_cell1 (by rfl) rfl rfl Try.underlying3 rfl (fun w h => (cell_of_row _ _ _ _ _ _ (h.at (i := 2) rfl)).trans HQ2.out)) ?_
      simp only [Act.put, List.setIfInBounds_toArray, List.set_cons_zero, List.set_cons_succ]
      refine mf_yield (i := 9) (d := 79) (.bool true) rfl rfl (by kernel_rfl) (by kernel_rfl) (by kernel_rfl) (by kernel_rfl) hS (y_neqK (by rfl) rfl Try.underlying3 rfl rfl HONE.out) ?_
      simp only [Act.put, List.setIfInBounds_toArray, List.set_cons_zero, List.set_cons_succ]
      refine mf_yield (i := 10) (d := 80) (.bool true) rfl rfl (by kernel_rfl) (by kernel_rfl) (by kernel_rfl) (by kernel_rfl) hS (y_run (by rfl) fun _ => by rfl) ?_
      simp only [Act.put, List.setIfInBounds_toArray, List.set_cons_zero, List.set_cons_succ]
      refine mf_yield (i := 11) (d := 81) undef rfl rfl (by kernel_rfl) (by kernel_rfl) (by kernel_rfl) (by kernel_rfl) hS (y_skip (by rfl)) ?_
      simp only [Act.put, List.setIfInBounds_toArray, List.set_cons_zero, List.set_cons_succ]
      refine mf_yield (i := 12) (d := 82) undef rfl rfl (by kernel_rfl) (by kernel_rfl) (by kernel_rfl) (by kernel_rfl) hS (y_skip (by rfl)) ?_
      simp only [Act.put, List.setIfInBounds_toArray, List.set_cons_zero, List.set_cons_succ]
      refine mf_yield (i := 13) (d := 83) undef rfl rfl (by kernel_rfl) (by kernel_rfl) (by kernel_rfl) (by kernel_rfl) hS (y_skip (by rfl)) ?_
      simp only [Act.put, List.setIfInBounds_toArray, List.set_cons_zero, List.set_cons_succ]
      refine mf_yield (i := 14) (d := 84) undef rfl rfl (by kernel_rfl) (by kernel_rfl) (by kernel_rfl) (by kernel_rfl) hS (y_skip (by rfl)) ?_
      simp only [Act.put, List.setIfInBounds_toArray, List.set_cons_zero, List.set_cons_succ]
      refine mf_yield (i := 15) (d := 85) undef rfl rfl (by kernel_rfl) (by kernel_rfl) (by kernel_rfl) (by kernel_rfl) hS (y_skip (by rfl)) ?_
      simp only [Act.put, List.setIfInBounds_toArray, List.set_cons_zero, List.set_cons_succ]
      refine mf_yield (i := 16) (d := 86) undef rfl rfl (by kernel_rfl) (by kernel_rfl) (by kernel_rfl) (by kernel_rfl) hS (y_skip (by rfl)) ?_
      simp only [Act.put, List.setIfInBounds_toArray, List.set_cons_zero, List.set_cons_succ]
      refine mf_yield (i := 17) (d := 87) undef rfl rfl (by kernel_rfl) (by kernel_rfl) (by kernel_rfl) (by kernel_rfl) hS (y_skip (by rfl)) ?_
      simp only [Act.put, List.setIfInBounds_toArray, List.set_cons_zero, List.set_cons_succ]
      refine mf_yield (i := 18) (d := 88) undef rfl rfl (by kernel_rfl) (by kernel_rfl) (by kernel_rfl) (by kernel_rfl) hS (y_skip (by rfl)) ?_
      simp only [Act.put, List.setIfInBounds_toArray, List.set_cons_zero, List.set_cons_succ]
      refine mf_yield (i := 19) (d := 89) (.bool true) rfl rfl (by kernel_rfl) (by kernel_rfl) (by kernel_rfl) (by kernel_rfl) hS (y_run (by rfl) fun _ => by rfl) ?_
      simp only [Act.put, List.setIfInBounds_toArray, List.set_cons_zero, List.set_cons_succ]
      refine mf_yield (i := 20) (d := 90) (.bool true) rfl rfl (by kernel_rfl) (by kernel_rfl) (by kernel_rfl) (by kernel_rfl) hS (y_run (by rfl) fun _ => by rfl) ?_
      simp only [Act.put, List.setIfInBounds_toArray, List.set_cons_zero, List.set_cons_succ]
      refine mf_yield (i := 21) (d := 91) (.bool true) rfl rfl (by kernel_rfl) (by kernel_rfl) (by kernel_rfl) (by kernel_rfl) hS (y_run (by rfl) fun _ => by rfl) ?_
      simp only [Act.put, List.setIfInBounds_toArray, List.set_cons_zero, List.set_cons_succ]
      refine mf_yield (i := 22) (d := 92) (.pointer (some ⟨gp, 2, none⟩)) rfl rfl (by kernel_rfl) (by kernel_rfl) (by kernel_rfl) (by kernel_rfl) hS (y_fieldO (by rfl) rfl rfl (fldp 2 (by omega)) (Nat.zero_add _)) ?_
      simp only [Act.put, List.setIfInBounds_toArray, List.set_cons_zero, List.set_cons_succ]
      refine mf_yield (i := 23) (d := 93) (.int .i64 ((kb.toNat : Nat))) rfl rfl (by kernel_rfl) (by kernel_rfl) (by kernel_rfl) (by kernel_rfl) hS (y_cell1 (by rfl) rfl rfl Try.underlying3 rfl (fun w h => (cell_of_row _ _ _ _ _ _ (h.at (i := 2) rfl)).trans HQ2.out)) ?_
      simp only [Act.put, List.setIfInBounds_toArray, List.set_cons_zero, List.set_cons_succ]
      refine mf_yield (i := 24) (d := 94) (.int .u8 ((kb.toNat : Nat))) rfl rfl (by kernel_rfl) (by kernel_rfl) (by kernel_rfl) (by kernel_rfl) hS (y_run (by rfl) fun _ => by rfl) ?_
      simp only [Act.put, List.setIfInBounds_toArray, List.set_cons_zero, List.set_cons_succ]
      refine mf_yield (i := 25) (d := 95) (.int .i64 ((kb.toNat : Nat))) rfl rfl (by kernel_rfl) (by kernel_rfl) (by kernel_rfl) (by kernel_rfl) hS (y_int8 (by rfl) rfl rfl kl) ?_
      simp only [Act.put, List.setIfInBounds_toArray, List.set_cons_zero, List.set_cons_succ]
      refine mf_yield (i := 26) (d := 96) (.bool true) rfl rfl (by kernel_rfl) (by kernel_rfl) (by kernel_rfl) (by kernel_rfl) hS (y_eqlK (by rfl) rfl Try.underlying3 rfl rfl (by simp)) ?_
      simp only [Act.put, List.setIfInBounds_toArray, List.set_cons_zero, List.set_cons_succ]
      refine mf_yield (i := 27) (d := 97) (.bool true) rfl rfl (by kernel_rfl) (by kernel_rfl) (by kernel_rfl) (by kernel_rfl) hS (y_run (by rfl) fun _ => by rfl) ?_
      simp only [Act.put, List.setIfInBounds_toArray, List.set_cons_zero, List.set_cons_succ]
      refine mf_yield (i := 28) (d := 98) (.bool true) rfl rfl (by kernel_rfl) (by kernel_rfl) (by kernel_rfl) (by kernel_rfl) hS (y_run (by rfl) fun _ => by rfl) ?_
      simp only [Act.put, List.setIfInBounds_toArray, List.set_cons_zero, List.set_cons_succ]
      refine mf_yield (i := 29) (d := 99) (.pointer (some ⟨gp, 5, none⟩)) rfl rfl (by kernel_rfl) (by kernel_rfl) (by kernel_rfl) (by kernel_rfl) hS (y_fieldO (by rfl) rfl rfl (fldp 5 (by omega)) (Nat.zero_add _)) ?_
      simp only [Act.put, List.setIfInBounds_toArray, List.set_cons_zero, List.set_cons_succ]
      refine mf_yield (i := 30) (d := 100) (.string Y) rfl rfl (by kernel_rfl) (by kernel_rfl) (by kernel_rfl) (by kernel_rfl) hS (y_cell1 (by rfl) rfl rfl Try.underlying9 rfl (fun w h => (cell_of_row _ _ _ _ _ _ (h.at (i := 2) rfl)).trans HQ5.out)) ?_
      simp only [Act.put, List.setIfInBounds_toArray, List.set_cons_zero, List.set_cons_succ]
      refine mf_yield (i := 31) (d := 101) (.int .i64 ((sb.toNat : Nat))) rfl rfl (by kernel_rfl) (by kernel_rfl) (by kernel_rfl) (by kernel_rfl) hS (y_lenS (by rfl) rfl rfl HYS.out) ?_
      simp only [Act.put, List.setIfInBounds_toArray, List.set_cons_zero, List.set_cons_succ]
      refine mf_yield (i := 32) (d := 102) (.int .u8 ((sb.toNat : Nat))) rfl rfl (by kernel_rfl) (by kernel_rfl) (by kernel_rfl) (by kernel_rfl) hS (y_run (by rfl) fun _ => by rfl) ?_
      simp only [Act.put, List.setIfInBounds_toArray, List.set_cons_zero, List.set_cons_succ]
      refine mf_yield (i := 33) (d := 103) (.int .i64 ((sb.toNat : Nat))) rfl rfl (by kernel_rfl) (by kernel_rfl) (by kernel_rfl) (by kernel_rfl) hS (y_int8 (by rfl) rfl rfl sl) ?_
      simp only [Act.put, List.setIfInBounds_toArray, List.set_cons_zero, List.set_cons_succ]
      refine mf_yield (i := 34) (d := 104) (.bool true) rfl rfl (by kernel_rfl) (by kernel_rfl) (by kernel_rfl) (by kernel_rfl) hS (y_eqlK (by rfl) rfl Try.underlying3 rfl rfl (by simp)) ?_
      simp only [Act.put, List.setIfInBounds_toArray, List.set_cons_zero, List.set_cons_succ]
      refine mf_yield (i := 35) (d := 105) (.bool true) rfl rfl (by kernel_rfl) (by kernel_rfl) (by kernel_rfl) (by kernel_rfl) hS (y_run (by rfl) fun _ => by rfl) ?_
      simp only [Act.put, List.setIfInBounds_toArray, List.set_cons_zero, List.set_cons_succ]
      refine mf_yield (i := 36) (d := 6) (.bool true) rfl rfl (by kernel_rfl) (by kernel_rfl) (by kernel_rfl) (by kernel_rfl) hS (y_run (by rfl) fun _ => by rfl) ?_
      simp only [Act.put, List.setIfInBounds_toArray, List.set_cons_zero, List.set_cons_succ]
      refine mf_done (by kernel_rfl) ?_
      have HBB := Lib.hid hS.below
      clear hS
      go_wp2_with fail
      go_ret
      exact ⟨rfl, HBB.out⟩

theorem heads_all (p : Pv) (kb sb : UInt8) (w : World) (ho : p.Ok) (hd : p.d.length ≤ maxLen) :
    Calls Try.prog 7 #[.agg (pgV p), .int .u8 (kb.toNat : Int), .int .u8 (sb.toNat : Int)] w fun e w' => e = .returned (.bool true) ∧ Below w.heap.size w w' := by
  by_cases hb : 200 < p.d.length
  · exact heads_big p kb sb w ho hd hb
  by_cases hr : p.right
  · by_cases hf : FormOk (fixb ((p.lay.set 12 kb).set 14 sb))
    · by_cases hk : kb.toNat = 1
      · by_cases e1 : (kb.toNat : Int) = p.k
        · by_cases e2 : sb.toNat = p.d.length
          · exact heads_tt1 p kb sb w ho hd hb hr hf e1 e2 hk
          · exact heads_tf1 p kb sb w ho hd hb hr hf e1 e2 hk
        · exact heads_f1 p kb sb w ho hd hb hr hf e1 hk
      · by_cases e1 : (kb.toNat : Int) = p.k
        · by_cases e2 : sb.toNat = p.d.length
          · exact heads_tt2 p kb sb w ho hd hb hr hf e1 e2 hk
          · exact heads_tf2 p kb sb w ho hd hb hr hf e1 e2 hk
        · exact heads_f2 p kb sb w ho hd hb hr hf e1 hk
    · exact heads_form p kb sb w ho hd hb hr hf
  · exact heads_not p kb sb w ho hd hb hr
theorem heads_int (p : Pv) (a y : Int) (w : World) (ho : p.Ok) (hd : p.d.length ≤ maxLen) (ha : 0 ≤ a ∧ a ≤ 255) (hy : 0 ≤ y ∧ y ≤ 255) :
    Calls Try.prog 7 #[.agg (pgV p), .int .u8 a, .int .u8 y] w fun e w' => e = .returned (.bool true) ∧ Below w.heap.size w w' := by
  have h := heads_all p (UInt8.ofNat a.toNat) (UInt8.ofNat y.toNat) w ho hd
  rw [ofNat_toNat _ (by omega), ofNat_toNat _ (by omega), Int.toNat_of_nonneg ha.1, Int.toNat_of_nonneg hy.1] at h
  exact h
end Go.Proofs.Yteahbdnnieaaaaa.Pa
