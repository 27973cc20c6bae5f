/- The program's Read. -/
import Derived.Test.YteahbdnnieaaaaaPaD
set_option maxRecDepth 100000
set_option linter.unusedVariables false
set_option linter.unusedSimpArgs false
namespace Go.Proofs.Yteahbdnnieaaaaa.Pa
open Go.RowKit Go.Proofs.Yteahbdnnieaaaaa.Row Go.Proofs.Yteahbdnnieaaaaa.Crc

theorem PsI.next {w w1 w2 : World} {b : List UInt8} (h : PsI w b w1) (hb : Below w1.heap.size w1 w2) : PsI w b w2 := ⟨below_trans h.1 hb h.1.size, h.2.1.below hb h.2.1.lt, h.2.2.below hb h.2.2.lt⟩
theorem built_z : Try.prog.built 31 [] = some (pgV Pv.zero) := by kernel_rfl
theorem ps_len (b : List UInt8) : (ps b).d.length ≤ maxLen := by
  show ((b.drop 15).take (min (B b 14) 49)).length ≤ maxLen
  rw [List.length_take]
  unfold maxLen
  omega
theorem ps_ok (b : List UInt8) : (ps b).Ok := ⟨fo_lt b 4, fo_lt b 8⟩
theorem ne_true {m n : Nat} (h : m ≠ n) : ((m : Int) != (n : Int)) = true := by rw [bne_iff_ne]; omega
theorem ne_false {m n : Nat} (h : m = n) : ((m : Int) != (n : Int)) = false := by rw [h]; simp

set_option maxHeartbeats 4000000 in
theorem read_sum (b : List UInt8) (w : World) (hb : b.length = 64) (hs : ¬ SumOk b) :
    Calls Try.prog 12 #[.agg (bl b)] w fun e w' => e = .returned (.tuple #[.agg (pgV Pv.zero), .int .i64 3]) ∧ Below w.heap.size w w' := by
  have HBL := Lib.hid hb
  have HD := Lib.hid (ne_true hs)
  clear hs
  have HI := Lib.hid (show PsI w b ((w.alloc (.cells (bl b) 27)).alloc (.cells (pgV Pv.zero) 31)) from ⟨below_second _ _ _, (At.new w (bl b) _).alloc _, at_second w _ _ _⟩)
  have HZ1 := Lib.hid (pgV_one Pv.zero)
  have hz := zero_pg
  have hzp := zero_api
  have hbt := built_z
  obtain ⟨T, hT⟩ : ∃ T, pgV Pv.zero = T := ⟨_, rfl⟩
  have HT := Lib.hid hT
  have hTs : T.size = 6 := by rw [← hT]; rfl
  have HTS := Lib.hid hTs
  rw [hT] at HZ1 hz hbt HI
  clear hb hTs
  go_enter Try.func12, Try.ntmps12
  go_wp2_with fail
  refine mf_start (PsI w b) (fun _ => false) HI.out.drew fun hS => ?_
  refine mf_yield (i := 0) (d := 7) (.slice ((some ⟨w.heap.size, 0, none⟩)) 4 64) rfl rfl (by kernel_rfl) (by kernel_rfl) (by kernel_rfl) (by kernel_rfl) hS (y_cuth (j := 4) (by rfl) rfl rfl rfl Try.underlying27 (by kernel_rfl) rfl (by omega)) ?_
  simp only [Act.put, List.setIfInBounds_toArray, List.set_cons_zero, List.set_cons_succ]
  refine mf_yield (i := 1) (d := 8) (.string ⟨((b.drop 0).take 4).toArray⟩) rfl rfl (by kernel_rfl) (by kernel_rfl) (by kernel_rfl) (by kernel_rfl) hS (y_text (by rfl) rfl rfl (fun w' h => h.2.1) (by rw [HBL.out]; omega)) ?_
  simp only [Act.put, List.setIfInBounds_toArray, List.set_cons_zero, List.set_cons_succ]
  refine mf_yield (i := 3) (d := 10) (.agg (bl b)) rfl rfl (by kernel_rfl) (by kernel_rfl) (by kernel_rfl) (by kernel_rfl) hS (y_load_w (by rfl) rfl rfl (fun w' h => h.2.1) Try.underlying27 rfl (info_api (by rw [bl_size, HBL.out]))) ?_
  simp only [Act.put, List.setIfInBounds_toArray, List.set_cons_zero, List.set_cons_succ]
  refine mf_ready [2] (by kernel_rfl) (by simp) (af_call (i := 2) (d := 9) (R := fun v w' => v = .int .u32 (fo b 0 : Nat) ∧ PsI w b w') #[.string ⟨((b.drop 0).take 4).toArray⟩] rfl rfl (by rfl) rfl enter_number (by kernel_rfl) ((number_fo b 0 4 HBL.out (by omega) (by omega) _).mono fun e w' h => ⟨_, h.1, rfl, h.2 ▸ hS⟩) (fun v w' h => h.2) ?_ AllReadyF.nil)
  rintro v w2 ⟨rfl, h2⟩ hS2
  clear hS hS2
  simp only [Act.put, List.setIfInBounds_toArray, List.set_cons_zero, List.set_cons_succ]
  refine mf_ready [4] (by kernel_rfl) (by simp) (af_call (i := 4) (d := 11) (R := fun v w' => v = .int .u32 (moreS 0 (b.drop 4) : Nat) ∧ PsI w b w') #[.agg (bl b)] rfl rfl (by rfl) rfl enter_sum (by kernel_rfl) ((sum_as b (bl b) (byts_bl HBL.out) _).mono fun e w' h => ⟨_, h.1, rfl, h2.next h.2⟩) (fun v w' h => h.2) ?_ AllReadyF.nil)
  rintro v w3 ⟨rfl, h3⟩ hS3
  clear h2
  simp only [Act.put, List.setIfInBounds_toArray, List.set_cons_zero, List.set_cons_succ]
  refine mf_one (i := 5) (d := 12) (.bool true) rfl rfl (by kernel_rfl) hS3 (y_neqK (by rfl) rfl Try.underlying22 rfl rfl HD.out) ?_
  simp only [Act.put, List.setIfInBounds_toArray, List.set_cons_zero, List.set_cons_succ]
  refine mf_done (by kernel_rfl) ?_
  have HI3 := Lib.hid h3
  have HA2 := Lib.hid (show At w3 (w.heap.size + 1) T 31 from HT.out ▸ h3.2.2)
  have HA1 := Lib.hid h3.2.1
  clear h3 hS3 HI HD
  go_wp2_with (first
    | (refine wpList_build_parts (by rfl) 31 [] rfl _ rfl hbt ?_)
    | (refine wpList_store_row rfl 31 _ _ rfl (w.heap.size + 1) T rfl rfl _ _ HA2.out (info_pg HTS.out) (by rw [← HT.out]) HZ1.out ?_)
    | fail)
  rw [HT.out]
  exact bodyPost_ret (v := .tuple #[.agg T, .int .i64 3]) (results_any_int rfl _ _ (w.heap.size + 1) T _ rfl rfl (At.setRow HA2.out) Try.underlying31 rfl (info_pg HTS.out)) rfl ⟨rfl, below_setRow' HI3.out.1 (by omega) _⟩

set_option maxHeartbeats 4000000 in
theorem read_no (b : List UInt8) (w : World) (hb : b.length = 64) (hs : SumOk b) (hf : ¬ (ps b).right) :
    Calls Try.prog 12 #[.agg (bl b)] w fun e w' => e = .returned (.tuple #[.agg (pgV Pv.zero), .int .i64 4]) ∧ Below w.heap.size w w' := by
  have HBL := Lib.hid hb
  have HD := Lib.hid (ne_false hs)
  have HN := Lib.hid hf
  clear hs hf
  have HI := Lib.hid (show PsI w b ((w.alloc (.cells (bl b) 27)).alloc (.cells (pgV Pv.zero) 31)) from ⟨below_second _ _ _, (At.new w (bl b) _).alloc _, at_second w _ _ _⟩)
  have HZ1 := Lib.hid (pgV_one Pv.zero)
  have hz := zero_pg
  have hzp := zero_api
  have hbt := built_z
  obtain ⟨T, hT⟩ : ∃ T, pgV Pv.zero = T := ⟨_, rfl⟩
  have HT := Lib.hid hT
  have hTs : T.size = 6 := by rw [← hT]; rfl
  have HTS := Lib.hid hTs
  rw [hT] at HZ1 hz hbt HI
  clear hb hTs
  go_enter Try.func12, Try.ntmps12
  go_wp2_with fail
  refine mf_start (PsI w b) (fun _ => false) HI.out.drew fun hS => ?_
  refine mf_yield (i := 0) (d := 7) (.slice ((some ⟨w.heap.size, 0, none⟩)) 4 64) rfl rfl (by kernel_rfl) (by kernel_rfl) (by kernel_rfl) (by kernel_rfl) hS (y_cuth (j := 4) (by rfl) rfl rfl rfl Try.underlying27 (by kernel_rfl) rfl (by omega)) ?_
  simp only [Act.put, List.setIfInBounds_toArray, List.set_cons_zero, List.set_cons_succ]
  refine mf_yield (i := 1) (d := 8) (.string ⟨((b.drop 0).take 4).toArray⟩) rfl rfl (by kernel_rfl) (by kernel_rfl) (by kernel_rfl) (by kernel_rfl) hS (y_text (by rfl) rfl rfl (fun w' h => h.2.1) (by rw [HBL.out]; omega)) ?_
  simp only [Act.put, List.setIfInBounds_toArray, List.set_cons_zero, List.set_cons_succ]
  refine mf_yield (i := 3) (d := 10) (.agg (bl b)) rfl rfl (by kernel_rfl) (by kernel_rfl) (by kernel_rfl) (by kernel_rfl) hS (y_load_w (by rfl) rfl rfl (fun w' h => h.2.1) Try.underlying27 rfl (info_api (by rw [bl_size, HBL.out]))) ?_
  simp only [Act.put, List.setIfInBounds_toArray, List.set_cons_zero, List.set_cons_succ]
  refine mf_ready [2] (by kernel_rfl) (by simp) (af_call (i := 2) (d := 9) (R := fun v w' => v = .int .u32 (fo b 0 : Nat) ∧ PsI w b w') #[.string ⟨((b.drop 0).take 4).toArray⟩] rfl rfl (by rfl) rfl enter_number (by kernel_rfl) ((number_fo b 0 4 HBL.out (by omega) (by omega) _).mono fun e w' h => ⟨_, h.1, rfl, h.2 ▸ hS⟩) (fun v w' h => h.2) ?_ AllReadyF.nil)
  rintro v w2 ⟨rfl, h2⟩ hS2
  clear hS hS2
  simp only [Act.put, List.setIfInBounds_toArray, List.set_cons_zero, List.set_cons_succ]
  refine mf_ready [4] (by kernel_rfl) (by simp) (af_call (i := 4) (d := 11) (R := fun v w' => v = .int .u32 (moreS 0 (b.drop 4) : Nat) ∧ PsI w b w') #[.agg (bl b)] rfl rfl (by rfl) rfl enter_sum (by kernel_rfl) ((sum_as b (bl b) (byts_bl HBL.out) _).mono fun e w' h => ⟨_, h.1, rfl, h2.next h.2⟩) (fun v w' h => h.2) ?_ AllReadyF.nil)
  rintro v w3 ⟨rfl, h3⟩ hS3
  clear h2
  simp only [Act.put, List.setIfInBounds_toArray, List.set_cons_zero, List.set_cons_succ]
  refine mf_one (i := 5) (d := 12) (.bool false) rfl rfl (by kernel_rfl) hS3 (y_neqK (by rfl) rfl Try.underlying22 rfl rfl HD.out) ?_
  simp only [Act.put, List.setIfInBounds_toArray, List.set_cons_zero, List.set_cons_succ]
  refine mf_done (by kernel_rfl) ?_
  have HI3 := Lib.hid h3
  have HA2 := Lib.hid (show At w3 (w.heap.size + 1) T 31 from HT.out ▸ h3.2.2)
  have HA1 := Lib.hid h3.2.1
  clear h3 hS3 HI HD
  go_wp2_with (first
    | (refine wpList_load_w rfl 27 _ rfl _ rfl HA1.out Try.underlying27 rfl (info_api (by rw [bl_size, HBL.out])) ?_)
    | fail)
  refine (parse_as b _ HBL.out).mono ?_
  rintro e w4 ⟨rfl, hb4⟩
  have HI4 := Lib.hid (HI3.out.next hb4)
  have HA4 := Lib.hid (HA2.out.below hb4 HA2.out.lt)
  obtain ⟨P, hP⟩ : ∃ P, pgV (ps b) = P := ⟨_, rfl⟩
  have HP := Lib.hid hP
  have HPS := Lib.hid (show P.size = 6 by rw [← hP]; rfl)
  have HPO := Lib.hid (show P.all (·.oneCell') = true by rw [← hP]; exact pgV_one _)
  rw [hP]
  clear hP hb4 HI3 HA1 HA2
  go_wp2_with (first
    | (refine wpList_store_row rfl 31 _ _ rfl w4.heap.size P rfl rfl _ _ (heap_alloc_new _ _) (info_pg HPS.out) (by rw [HPS.out, HTS.out]) HPO.out ?_)
    | (refine wpList_load_w rfl 31 _ rfl _ rfl (At.setRow (At.new _ _ _)) Try.underlying31 rfl (info_pg HPS.out) ?_)
    | fail)
  rw [World.setRow_alloc_new]
  have hb5 : Below w4.heap.size w4 (w4.alloc (.cells P 31)) := (Below.refl _ _).alloc (Nat.le_refl _) _
  have HI5 := Lib.hid (HI4.out.next hb5)
  have HA5 := Lib.hid (HA4.out.below hb5 HA4.out.lt)
  have HP5 := Lib.hid (At.new w4 P 31)
  have HG := Lib.hid (show w.heap.size + 1 < w4.heap.size from HA4.out.lt)
  clear hb5 HI4 HA4
  revert HI5 HA5 HP5 HG
  generalize World.alloc _ _ = W5
  generalize w4.heap.size = g
  intro HI5 HA5 HP5 HG
  obtain ⟨Z, hZ⟩ : ∃ Z, bl z64 = Z := ⟨_, rfl⟩
  have HLS := Lib.hid (show Z.size = 64 by rw [← hZ, bl_size, z64_len])
  have HZS := HLS
  have HLO := Lib.hid (show Z.all (·.oneCell') = true by rw [← hZ]; exact bl_one _)
  have HC := Lib.hid (lay_no (ps b) W5 (ps_len b) HN.out)
  rw [HP.out, hZ] at HC
  rw [hZ] at hzp
  clear hZ
  refine (HC.out).mono ?_
  rintro e w6 ⟨rfl, hb6⟩
  have HI6 := Lib.hid (HI5.out.next hb6)
  have HA6 := Lib.hid (HA5.out.below hb6 HA5.out.lt)
  have HP6 := Lib.hid (HP5.out.below hb6 HP5.out.lt)
  have hb7 : Below w6.heap.size w6 (w6.alloc (.cells Z 27)) := (Below.refl _ _).alloc (Nat.le_refl _) _
  have HI7 := Lib.hid (HI6.out.next hb7)
  have HA7 := Lib.hid (HA6.out.below hb7 HA6.out.lt)
  have HP7 := Lib.hid (HP6.out.below hb7 HP6.out.lt)
  have HB7 := Lib.hid HI7.out.2.1
  clear hb6 hb7 HI5 HA5 HP5 HI6 HA6 HP6
  go_wp2_with (first
    | (refine wpList_store_row rfl 27 _ _ rfl w6.heap.size Z rfl rfl _ _ (heap_alloc_new _ _) (info_api HLS.out) (by first | rfl | rw [HLS.out, HZS.out]) HLO.out ?_)
    | (refine wpList_store_row rfl 31 _ _ rfl (w.heap.size + 1) T rfl rfl _ _ (show At _ _ _ _ by first | exact HA7.out | (rw [World.setRow_alloc_new]; exact HA7.out)) (info_pg HTS.out) (by rw [← HT.out]) HZ1.out ?_)
    | (refine wpList_build_parts (by rfl) 31 [] rfl _ rfl hbt ?_)
    | fail)
  rw [World.setRow_alloc_new]
  rw [HT.out]
  exact bodyPost_ret (v := .tuple #[.agg T, .int .i64 4]) (results_any_int rfl _ _ (w.heap.size + 1) T _ rfl rfl (At.setRow HA7.out) Try.underlying31 rfl (info_pg HTS.out)) rfl ⟨rfl, below_setRow' HI7.out.1 (by omega) _⟩

set_option maxHeartbeats 4000000 in
theorem read_ne (b : List UInt8) (w : World) (hb : b.length = 64) (hs : SumOk b) (hf : (ps b).right) (hE : ∀ w, (Op.equalIn 10000 27 (.agg (bl (ps b).lay)) (.agg (bl b))).run Try.prog w = .ok false w) :
    Calls Try.prog 12 #[.agg (bl b)] w fun e w' => e = .returned (.tuple #[.agg (pgV Pv.zero), .int .i64 4]) ∧ Below w.heap.size w w' := by
  have HBL := Lib.hid hb
  have HD := Lib.hid (ne_false hs)
  have HN := Lib.hid hf
  clear hs hf
  have HI := Lib.hid (show PsI w b ((w.alloc (.cells (bl b) 27)).alloc (.cells (pgV Pv.zero) 31)) from ⟨below_second _ _ _, (At.new w (bl b) _).alloc _, at_second w _ _ _⟩)
  have HZ1 := Lib.hid (pgV_one Pv.zero)
  have hz := zero_pg
  have hzp := zero_api
  have hbt := built_z
  obtain ⟨T, hT⟩ : ∃ T, pgV Pv.zero = T := ⟨_, rfl⟩
  have HT := Lib.hid hT
  have hTs : T.size = 6 := by rw [← hT]; rfl
  have HTS := Lib.hid hTs
  rw [hT] at HZ1 hz hbt HI
  clear hb hTs
  go_enter Try.func12, Try.ntmps12
  go_wp2_with fail
  refine mf_start (PsI w b) (fun _ => false) HI.out.drew fun hS => ?_
  refine mf_yield (i := 0) (d := 7) (.slice ((some ⟨w.heap.size, 0, none⟩)) 4 64) rfl rfl (by kernel_rfl) (by kernel_rfl) (by kernel_rfl) (by kernel_rfl) hS (y_cuth (j := 4) (by rfl) rfl rfl rfl Try.underlying27 (by kernel_rfl) rfl (by omega)) ?_
  simp only [Act.put, List.setIfInBounds_toArray, List.set_cons_zero, List.set_cons_succ]
  refine mf_yield (i := 1) (d := 8) (.string ⟨((b.drop 0).take 4).toArray⟩) rfl rfl (by kernel_rfl) (by kernel_rfl) (by kernel_rfl) (by kernel_rfl) hS (y_text (by rfl) rfl rfl (fun w' h => h.2.1) (by rw [HBL.out]; omega)) ?_
  simp only [Act.put, List.setIfInBounds_toArray, List.set_cons_zero, List.set_cons_succ]
  refine mf_yield (i := 3) (d := 10) (.agg (bl b)) rfl rfl (by kernel_rfl) (by kernel_rfl) (by kernel_rfl) (by kernel_rfl) hS (y_load_w (by rfl) rfl rfl (fun w' h => h.2.1) Try.underlying27 rfl (info_api (by rw [bl_size, HBL.out]))) ?_
  simp only [Act.put, List.setIfInBounds_toArray, List.set_cons_zero, List.set_cons_succ]
  refine mf_ready [2] (by kernel_rfl) (by simp) (af_call (i := 2) (d := 9) (R := fun v w' => v = .int .u32 (fo b 0 : Nat) ∧ PsI w b w') #[.string ⟨((b.drop 0).take 4).toArray⟩] rfl rfl (by rfl) rfl enter_number (by kernel_rfl) ((number_fo b 0 4 HBL.out (by omega) (by omega) _).mono fun e w' h => ⟨_, h.1, rfl, h.2 ▸ hS⟩) (fun v w' h => h.2) ?_ AllReadyF.nil)
  rintro v w2 ⟨rfl, h2⟩ hS2
  clear hS hS2
  simp only [Act.put, List.setIfInBounds_toArray, List.set_cons_zero, List.set_cons_succ]
  refine mf_ready [4] (by kernel_rfl) (by simp) (af_call (i := 4) (d := 11) (R := fun v w' => v = .int .u32 (moreS 0 (b.drop 4) : Nat) ∧ PsI w b w') #[.agg (bl b)] rfl rfl (by rfl) rfl enter_sum (by kernel_rfl) ((sum_as b (bl b) (byts_bl HBL.out) _).mono fun e w' h => ⟨_, h.1, rfl, h2.next h.2⟩) (fun v w' h => h.2) ?_ AllReadyF.nil)
  rintro v w3 ⟨rfl, h3⟩ hS3
  clear h2
  simp only [Act.put, List.setIfInBounds_toArray, List.set_cons_zero, List.set_cons_succ]
  refine mf_one (i := 5) (d := 12) (.bool false) rfl rfl (by kernel_rfl) hS3 (y_neqK (by rfl) rfl Try.underlying22 rfl rfl HD.out) ?_
  simp only [Act.put, List.setIfInBounds_toArray, List.set_cons_zero, List.set_cons_succ]
  refine mf_done (by kernel_rfl) ?_
  have HI3 := Lib.hid h3
  have HA2 := Lib.hid (show At w3 (w.heap.size + 1) T 31 from HT.out ▸ h3.2.2)
  have HA1 := Lib.hid h3.2.1
  clear h3 hS3 HI HD
  go_wp2_with (first
    | (refine wpList_load_w rfl 27 _ rfl _ rfl HA1.out Try.underlying27 rfl (info_api (by rw [bl_size, HBL.out])) ?_)
    | fail)
  refine (parse_as b _ HBL.out).mono ?_
  rintro e w4 ⟨rfl, hb4⟩
  have HI4 := Lib.hid (HI3.out.next hb4)
  have HA4 := Lib.hid (HA2.out.below hb4 HA2.out.lt)
  obtain ⟨P, hP⟩ : ∃ P, pgV (ps b) = P := ⟨_, rfl⟩
  have HP := Lib.hid hP
  have HPS := Lib.hid (show P.size = 6 by rw [← hP]; rfl)
  have HPO := Lib.hid (show P.all (·.oneCell') = true by rw [← hP]; exact pgV_one _)
  rw [hP]
  clear hP hb4 HI3 HA1 HA2
  go_wp2_with (first
    | (refine wpList_store_row rfl 31 _ _ rfl w4.heap.size P rfl rfl _ _ (heap_alloc_new _ _) (info_pg HPS.out) (by rw [HPS.out, HTS.out]) HPO.out ?_)
    | (refine wpList_load_w rfl 31 _ rfl _ rfl (At.setRow (At.new _ _ _)) Try.underlying31 rfl (info_pg HPS.out) ?_)
    | fail)
  rw [World.setRow_alloc_new]
  have hb5 : Below w4.heap.size w4 (w4.alloc (.cells P 31)) := (Below.refl _ _).alloc (Nat.le_refl _) _
  have HI5 := Lib.hid (HI4.out.next hb5)
  have HA5 := Lib.hid (HA4.out.below hb5 HA4.out.lt)
  have HP5 := Lib.hid (At.new w4 P 31)
  have HG := Lib.hid (show w.heap.size + 1 < w4.heap.size from HA4.out.lt)
  clear hb5 HI4 HA4
  revert HI5 HA5 HP5 HG
  generalize World.alloc _ _ = W5
  generalize w4.heap.size = g
  intro HI5 HA5 HP5 HG
  have hpo := ps_ok b
  have HLL := Lib.hid (Pv.lay_length HN.out)
  obtain ⟨X, hX⟩ : ∃ X, bl (ps b).lay = X := ⟨_, rfl⟩
  obtain ⟨Z, hZ⟩ : ∃ Z, bl z64 = Z := ⟨_, rfl⟩
  have HLS := Lib.hid (show X.size = 64 by rw [← hX, bl_size, HLL.out])
  have HZS := Lib.hid (show Z.size = 64 by rw [← hZ, bl_size, z64_len])
  have HLO := Lib.hid (show X.all (·.oneCell') = true by rw [← hX]; exact bl_one _)
  have HC := Lib.hid (lay_yes (ps b) W5 (ps_len b) hpo HN.out)
  rw [HP.out, hX] at HC
  rw [hX] at hE
  rw [hZ] at hzp
  have HBO := Lib.hid (show (bl b).size = 64 by rw [bl_size, HBL.out])
  clear hZ hX hpo
  refine (HC.out).mono ?_
  rintro e w6 ⟨rfl, hb6⟩
  have HI6 := Lib.hid (HI5.out.next hb6)
  have HA6 := Lib.hid (HA5.out.below hb6 HA5.out.lt)
  have HP6 := Lib.hid (HP5.out.below hb6 HP5.out.lt)
  have hb7 : Below w6.heap.size w6 (w6.alloc (.cells X 27)) := (Below.refl _ _).alloc (Nat.le_refl _) _
  have HI7 := Lib.hid (HI6.out.next hb7)
  have HA7 := Lib.hid (HA6.out.below hb7 HA6.out.lt)
  have HP7 := Lib.hid (HP6.out.below hb7 HP6.out.lt)
  have HB7 := Lib.hid HI7.out.2.1
  clear hb6 hb7 HI5 HA5 HP5 HI6 HA6 HP6
  go_wp2_with (first
    | (refine wpList_store_row rfl 27 _ _ rfl w6.heap.size X rfl rfl _ _ (heap_alloc_new _ _) (info_api HLS.out) (by first | rfl | rw [HLS.out, HZS.out]) HLO.out ?_)
    | (refine wpList_load_w rfl 27 _ rfl _ rfl (At.setRow (At.new _ _ _)) Try.underlying27 rfl (info_api HLS.out) ?_)
    | (refine wpList_load_w rfl 27 _ rfl _ rfl (show At _ w.heap.size (bl b) _ by rw [World.setRow_alloc_new]; exact HB7.out) Try.underlying27 rfl (info_api HBO.out) ?_)
    | (refine wpList_load_w rfl 31 _ rfl _ rfl (show At _ g P _ by rw [World.setRow_alloc_new]; exact HP7.out) Try.underlying31 rfl (info_pg HPS.out) ?_)
    | (refine wpList_store_row rfl 31 _ _ rfl (w.heap.size + 1) P rfl rfl _ _ (show At _ _ _ _ by rw [World.setRow_alloc_new]; exact HA7.out) (info_pg HPS.out) (by rw [HPS.out, HTS.out]) HPO.out ?_)
    | (refine wpList_store_row rfl 31 _ _ rfl (w.heap.size + 1) T rfl rfl _ _ (show At _ _ _ _ by rw [World.setRow_alloc_new]; exact HA7.out) (info_pg HTS.out) (by rw [← HT.out]) HZ1.out ?_)
    | (refine wpList_build_parts (by rfl) 31 [] rfl _ rfl hbt ?_)
    | fail)
  rw [World.setRow_alloc_new]
  rw [HT.out]
  exact bodyPost_ret (v := .tuple #[.agg T, .int .i64 4]) (results_any_int rfl _ _ (w.heap.size + 1) T _ rfl rfl (At.setRow HA7.out) Try.underlying31 rfl (info_pg HTS.out)) rfl ⟨rfl, below_setRow' HI7.out.1 (by omega) _⟩

set_option maxHeartbeats 4000000 in
theorem read_eq (b : List UInt8) (w : World) (hb : b.length = 64) (hs : SumOk b) (hf : (ps b).right) (hE : ∀ w, (Op.equalIn 10000 27 (.agg (bl (ps b).lay)) (.agg (bl b))).run Try.prog w = .ok true w) :
    Calls Try.prog 12 #[.agg (bl b)] w fun e w' => e = .returned (.tuple #[.agg (pgV (ps b)), .int .i64 0]) ∧ Below w.heap.size w w' := by
  have HBL := Lib.hid hb
  have HD := Lib.hid (ne_false hs)
  have HN := Lib.hid hf
  clear hs hf
  have HI := Lib.hid (show PsI w b ((w.alloc (.cells (bl b) 27)).alloc (.cells (pgV Pv.zero) 31)) from ⟨below_second _ _ _, (At.new w (bl b) _).alloc _, at_second w _ _ _⟩)
  have HZ1 := Lib.hid (pgV_one Pv.zero)
  have hz := zero_pg
  have hzp := zero_api
  have hbt := built_z
  obtain ⟨T, hT⟩ : ∃ T, pgV Pv.zero = T := ⟨_, rfl⟩
  have HT := Lib.hid hT
  have hTs : T.size = 6 := by rw [← hT]; rfl
  have HTS := Lib.hid hTs
  rw [hT] at HZ1 hz hbt HI
  clear hb hTs
  go_enter Try.func12, Try.ntmps12
  go_wp2_with fail
  refine mf_start (PsI w b) (fun _ => false) HI.out.drew fun hS => ?_
  refine mf_yield (i := 0) (d := 7) (.slice ((some ⟨w.heap.size, 0, none⟩)) 4 64) rfl rfl (by kernel_rfl) (by kernel_rfl) (by kernel_rfl) (by kernel_rfl) hS (y_cuth (j := 4) (by rfl) rfl rfl rfl Try.underlying27 (by kernel_rfl) rfl (by omega)) ?_
  simp only [Act.put, List.setIfInBounds_toArray, List.set_cons_zero, List.set_cons_succ]
  refine mf_yield (i := 1) (d := 8) (.string ⟨((b.drop 0).take 4).toArray⟩) rfl rfl (by kernel_rfl) (by kernel_rfl) (by kernel_rfl) (by kernel_rfl) hS (y_text (by rfl) rfl rfl (fun w' h => h.2.1) (by rw [HBL.out]; omega)) ?_
  simp only [Act.put, List.setIfInBounds_toArray, List.set_cons_zero, List.set_cons_succ]
  refine mf_yield (i := 3) (d := 10) (.agg (bl b)) rfl rfl (by kernel_rfl) (by kernel_rfl) (by kernel_rfl) (by kernel_rfl) hS (y_load_w (by rfl) rfl rfl (fun w' h => h.2.1) Try.underlying27 rfl (info_api (by rw [bl_size, HBL.out]))) ?_
  simp only [Act.put, List.setIfInBounds_toArray, List.set_cons_zero, List.set_cons_succ]
  refine mf_ready [2] (by kernel_rfl) (by simp) (af_call (i := 2) (d := 9) (R := fun v w' => v = .int .u32 (fo b 0 : Nat) ∧ PsI w b w') #[.string ⟨((b.drop 0).take 4).toArray⟩] rfl rfl (by rfl) rfl enter_number (by kernel_rfl) ((number_fo b 0 4 HBL.out (by omega) (by omega) _).mono fun e w' h => ⟨_, h.1, rfl, h.2 ▸ hS⟩) (fun v w' h => h.2) ?_ AllReadyF.nil)
  rintro v w2 ⟨rfl, h2⟩ hS2
  clear hS hS2
  simp only [Act.put, List.setIfInBounds_toArray, List.set_cons_zero, List.set_cons_succ]
  refine mf_ready [4] (by kernel_rfl) (by simp) (af_call (i := 4) (d := 11) (R := fun v w' => v = .int .u32 (moreS 0 (b.drop 4) : Nat) ∧ PsI w b w') #[.agg (bl b)] rfl rfl (by rfl) rfl enter_sum (by kernel_rfl) ((sum_as b (bl b) (byts_bl HBL.out) _).mono fun e w' h => ⟨_, h.1, rfl, h2.next h.2⟩) (fun v w' h => h.2) ?_ AllReadyF.nil)
  rintro v w3 ⟨rfl, h3⟩ hS3
  clear h2
  simp only [Act.put, List.setIfInBounds_toArray, List.set_cons_zero, List.set_cons_succ]
  refine mf_one (i := 5) (d := 12) (.bool false) rfl rfl (by kernel_rfl) hS3 (y_neqK (by rfl) rfl Try.underlying22 rfl rfl HD.out) ?_
  simp only [Act.put, List.setIfInBounds_toArray, List.set_cons_zero, List.set_cons_succ]
  refine mf_done (by kernel_rfl) ?_
  have HI3 := Lib.hid h3
  have HA2 := Lib.hid (show At w3 (w.heap.size + 1) T 31 from HT.out ▸ h3.2.2)
  have HA1 := Lib.hid h3.2.1
  clear h3 hS3 HI HD
  go_wp2_with (first
    | (refine wpList_load_w rfl 27 _ rfl _ rfl HA1.out Try.underlying27 rfl (info_api (by rw [bl_size, HBL.out])) ?_)
    | fail)
  refine (parse_as b _ HBL.out).mono ?_
  rintro e w4 ⟨rfl, hb4⟩
  have HI4 := Lib.hid (HI3.out.next hb4)
  have HA4 := Lib.hid (HA2.out.below hb4 HA2.out.lt)
  obtain ⟨P, hP⟩ : ∃ P, pgV (ps b) = P := ⟨_, rfl⟩
  have HP := Lib.hid hP
  have HPS := Lib.hid (show P.size = 6 by rw [← hP]; rfl)
  have HPO := Lib.hid (show P.all (·.oneCell') = true by rw [← hP]; exact pgV_one _)
  rw [hP]
  clear hP hb4 HI3 HA1 HA2
  go_wp2_with (first
    | (refine wpList_store_row rfl 31 _ _ rfl w4.heap.size P rfl rfl _ _ (heap_alloc_new _ _) (info_pg HPS.out) (by rw [HPS.out, HTS.out]) HPO.out ?_)
    | (refine wpList_load_w rfl 31 _ rfl _ rfl (At.setRow (At.new _ _ _)) Try.underlying31 rfl (info_pg HPS.out) ?_)
    | fail)
  rw [World.setRow_alloc_new]
  have hb5 : Below w4.heap.size w4 (w4.alloc (.cells P 31)) := (Below.refl _ _).alloc (Nat.le_refl _) _
  have HI5 := Lib.hid (HI4.out.next hb5)
  have HA5 := Lib.hid (HA4.out.below hb5 HA4.out.lt)
  have HP5 := Lib.hid (At.new w4 P 31)
  have HG := Lib.hid (show w.heap.size + 1 < w4.heap.size from HA4.out.lt)
  clear hb5 HI4 HA4
  revert HI5 HA5 HP5 HG
  generalize World.alloc _ _ = W5
  generalize w4.heap.size = g
  intro HI5 HA5 HP5 HG
  have hpo := ps_ok b
  have HLL := Lib.hid (Pv.lay_length HN.out)
  obtain ⟨X, hX⟩ : ∃ X, bl (ps b).lay = X := ⟨_, rfl⟩
  obtain ⟨Z, hZ⟩ : ∃ Z, bl z64 = Z := ⟨_, rfl⟩
  have HLS := Lib.hid (show X.size = 64 by rw [← hX, bl_size, HLL.out])
  have HZS := Lib.hid (show Z.size = 64 by rw [← hZ, bl_size, z64_len])
  have HLO := Lib.hid (show X.all (·.oneCell') = true by rw [← hX]; exact bl_one _)
  have HC := Lib.hid (lay_yes (ps b) W5 (ps_len b) hpo HN.out)
  rw [HP.out, hX] at HC
  rw [hX] at hE
  rw [hZ] at hzp
  have HBO := Lib.hid (show (bl b).size = 64 by rw [bl_size, HBL.out])
  clear hZ hX hpo
  refine (HC.out).mono ?_
  rintro e w6 ⟨rfl, hb6⟩
  have HI6 := Lib.hid (HI5.out.next hb6)
  have HA6 := Lib.hid (HA5.out.below hb6 HA5.out.lt)
  have HP6 := Lib.hid (HP5.out.below hb6 HP5.out.lt)
  have hb7 : Below w6.heap.size w6 (w6.alloc (.cells X 27)) := (Below.refl _ _).alloc (Nat.le_refl _) _
  have HI7 := Lib.hid (HI6.out.next hb7)
  have HA7 := Lib.hid (HA6.out.below hb7 HA6.out.lt)
  have HP7 := Lib.hid (HP6.out.below hb7 HP6.out.lt)
  have HB7 := Lib.hid HI7.out.2.1
  clear hb6 hb7 HI5 HA5 HP5 HI6 HA6 HP6
  go_wp2_with (first
    | (refine wpList_store_row rfl 27 _ _ rfl w6.heap.size X rfl rfl _ _ (heap_alloc_new _ _) (info_api HLS.out) (by first | rfl | rw [HLS.out, HZS.out]) HLO.out ?_)
    | (refine wpList_load_w rfl 27 _ rfl _ rfl (At.setRow (At.new _ _ _)) Try.underlying27 rfl (info_api HLS.out) ?_)
    | (refine wpList_load_w rfl 27 _ rfl _ rfl (show At _ w.heap.size (bl b) _ by rw [World.setRow_alloc_new]; exact HB7.out) Try.underlying27 rfl (info_api HBO.out) ?_)
    | (refine wpList_load_w rfl 31 _ rfl _ rfl (show At _ g P _ by rw [World.setRow_alloc_new]; exact HP7.out) Try.underlying31 rfl (info_pg HPS.out) ?_)
    | (refine wpList_store_row rfl 31 _ _ rfl (w.heap.size + 1) P rfl rfl _ _ (show At _ _ _ _ by rw [World.setRow_alloc_new]; exact HA7.out) (info_pg HPS.out) (by rw [HPS.out, HTS.out]) HPO.out ?_)
    | (refine wpList_store_row rfl 31 _ _ rfl (w.heap.size + 1) T rfl rfl _ _ (show At _ _ _ _ by rw [World.setRow_alloc_new]; exact HA7.out) (info_pg HTS.out) (by rw [← HT.out]) HZ1.out ?_)
    | (refine wpList_build_parts (by rfl) 31 [] rfl _ rfl hbt ?_)
    | fail)
  rw [World.setRow_alloc_new]
  rw [HP.out]
  exact bodyPost_ret (v := .tuple #[.agg P, .int .i64 0]) (results_any_int rfl _ _ (w.heap.size + 1) P _ rfl rfl (At.setRow HA7.out) Try.underlying31 rfl (info_pg HPS.out)) rfl ⟨rfl, below_setRow' HI7.out.1 (by omega) _⟩

theorem same_rows {l m : List UInt8} (hl : l.length = 64) (hm : m.length = 64) : ∃ r : Bool, (r = true ↔ l = m) ∧ ∀ w, (Op.equalIn 10000 27 (.agg (bl l)) (.agg (bl m))).run Try.prog w = .ok r w := by
  obtain ⟨r, h1, h2⟩ := rows8_is (bl_row l hl) (bl_row m hm) Try.underlying27 Try.underlying5 (by kernel_rfl)
  refine ⟨r, h1.trans ⟨fun h => ?_, fun h i _ => by rw [h]⟩, h2⟩
  exact bl_inj ((bl_row l hl).eq (bl_row m hm) h)
instance (b : List UInt8) : Decidable (SumOk b) := by unfold SumOk; infer_instance
instance (b : List UInt8) : Decidable (FormOk b) :=
  decidable_of_iff (1 ≤ B b 12 ∧ B b 12 ≤ 2 ∧ B b 13 ≤ 3 ∧ (B b 12 = 1 → B b 13 = 0) ∧ 1 ≤ B b 14 ∧ B b 14 ≤ 49 ∧ ∀ i, i < 64 → 15 + B b 14 ≤ i → B b i = 0)
    ⟨fun h => ⟨h.1, h.2.1, h.2.2.1, h.2.2.2.1, h.2.2.2.2.1, h.2.2.2.2.2.1, fun i h1 h2 => h.2.2.2.2.2.2 i h2 h1⟩, fun h => ⟨h.1, h.2.1, h.2.2.1, h.2.2.2.1, h.2.2.2.2.1, h.2.2.2.2.2.1, fun i h1 h2 => h.2.2.2.2.2.2 i h2 h1⟩⟩
/-- What Read answers. -/
def rdV (b : List UInt8) : Pv := if SumOk b ∧ FormOk b then pg b else Pv.zero
def rdE (b : List UInt8) : Nat := if SumOk b then if FormOk b then 0 else 4 else 3
theorem rd_yes {b : List UInt8} (hs : SumOk b) (hf : FormOk b) : rdV b = pg b ∧ rdE b = 0 := by
  unfold rdV rdE
  rw [if_pos ⟨hs, hf⟩, if_pos hs, if_pos hf]
  exact ⟨rfl, rfl⟩
theorem rd_form {b : List UInt8} (hs : SumOk b) (hf : ¬ FormOk b) : rdV b = Pv.zero ∧ rdE b = 4 := by
  unfold rdV rdE
  rw [if_neg (fun h => hf h.2), if_pos hs, if_neg hf]
  exact ⟨rfl, rfl⟩
theorem rd_sum {b : List UInt8} (hs : ¬ SumOk b) : rdV b = Pv.zero ∧ rdE b = 3 := by
  unfold rdV rdE
  rw [if_neg (fun h => hs h.1), if_neg hs]
  exact ⟨rfl, rfl⟩
theorem ps_pg {b : List UInt8} (h : FormOk b) : ps b = pg b := by
  obtain ⟨h1, h2, h3, h4, h5, h6, h7⟩ := h
  unfold ps pg
  rw [show min (B b 14) 49 = B b 14 from by omega]
  congr 1
  apply decide_eq_decide.2
  omega
theorem read_as (b : List UInt8) (w : World) (hb : b.length = 64) :
    Calls Try.prog 12 #[.agg (bl b)] w fun e w' => e = .returned (.tuple #[.agg (pgV (rdV b)), .int .i64 (rdE b)]) ∧ Below w.heap.size w w' := by
  by_cases hs : SumOk b
  · by_cases hr : (ps b).right
    · obtain ⟨r, h1, hE⟩ := same_rows (Pv.lay_length hr) hb
      cases r with
      | true =>
        have hf : FormOk b := by have := form_lay hr; rwa [h1.1 rfl] at this
        rw [(rd_yes hs hf).1, (rd_yes hs hf).2, ← ps_pg hf]
        exact read_eq b w hb hs hr hE
      | false =>
        have hf : ¬ FormOk b := fun hf => by
          have : (ps b).lay = b := by rw [ps_pg hf]; exact lay_pg hb hs hf
          exact Bool.false_ne_true (h1.2 this)
        rw [(rd_form hs hf).1, (rd_form hs hf).2]
        exact read_ne b w hb hs hr hE
    · have hf : ¬ FormOk b := fun hf => hr (by rw [ps_pg hf]; exact (pg_right hb hf).1)
      rw [(rd_form hs hf).1, (rd_form hs hf).2]
      exact read_no b w hb hs hr
  · rw [(rd_sum hs).1, (rd_sum hs).2]
    exact read_sum b w hb hs
/-- What Lay answers. -/
theorem lay_as (p : Pv) (w : World) (hd : p.d.length ≤ maxLen) (ho : p.Ok) :
    Calls Try.prog 9 #[.agg (pgV p)] w fun e w' => e = .returned (.tuple #[.agg (bl (if p.right then p.lay else z64)), .int .i64 (if p.right then 0 else 1)]) ∧ Below w.heap.size w w' := by
  by_cases h : p.right
  · rw [if_pos h, if_pos h]; exact lay_yes p w hd ho h
  · rw [if_neg h, if_neg h]; exact lay_no p w hd h
end Go.Proofs.Yteahbdnnieaaaaa.Pa
