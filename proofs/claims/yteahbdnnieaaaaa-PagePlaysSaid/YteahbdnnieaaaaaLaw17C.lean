/- The statement PagePlays. -/
import Derived.Test.YteahbdnnieaaaaaPaK
set_option maxRecDepth 100000
set_option linter.unusedVariables false
set_option linter.unusedSimpArgs false
namespace Go.Proofs.Yteahbdnnieaaaaa.Pa
open Go.RowKit Go.Proofs.Yteahbdnnieaaaaa.Row Go.Proofs.Yteahbdnnieaaaaa.Crc

theorem enter_plain (args : Array Value) (w : World) : (callFunc 13 args).run Try.prog w = .ok (.enter 13 args) w := run_enter Try.func13 (by kernel_rfl) rfl args w
theorem enter_of (args : Array Value) (w : World) : (callFunc 10 args).run Try.prog w = .ok (.enter 10 args) w := run_enter Try.func10 (by kernel_rfl) rfl args w
theorem enter_right (args : Array Value) (w : World) : (callFunc 11 args).run Try.prog w = .ok (.enter 11 args) w := run_enter Try.func11 (by kernel_rfl) rfl args w
theorem enter_rlay (args : Array Value) (w : World) : (callFunc 17 args).run Try.prog w = .ok (.enter 17 args) w := run_enter Try.func17 (by kernel_rfl) rfl args w

set_option maxHeartbeats 4000000 in
theorem plays_big (p : Pv) (b : List UInt8) (w : World) (ho : p.Ok) (hd : p.d.length ≤ maxLen) (hb : b.length = 64) (hbig : 200 < p.d.length) :
    Calls Try.prog 5 #[.agg (pgV p), .agg (bl b)] w fun e w' => e = .returned (.bool true) ∧ Below w.heap.size w w' := by
  have HO := Lib.hid ho
  have HD := Lib.hid hd
  have HBL := Lib.hid hb
  have HBS := Lib.hid (show (bl b).size = 64 by rw [bl_size, hb])
  have hI0 := (((Hv.start w).alloc (pgV p) 24).alloc (bl b) 26)
  simp only [List.nil_append, List.cons_append, World.size_alloc] at hI0
  have HI0 := Lib.hid hI0
  clear hI0
  obtain ⟨P, hP⟩ : ∃ P, pgV p = P := ⟨_, rfl⟩
  obtain ⟨X, hX⟩ : ∃ X : ByteArray, ⟨p.d.toArray⟩ = X := ⟨_, rfl⟩
  have HP := Lib.hid hP
  have HPS := Lib.hid (show P.size = 6 by rw [← hP]; rfl)
  have HP1 := Lib.hid (show P.all (·.oneCell') = true by rw [← hP]; exact pgV_one p)
  have HX5 := Lib.hid (show P[5]? = some (.string X) by rw [← hP, ← hX]; rfl)
  obtain ⟨N, hN⟩ : ∃ N, p.d.length = N := ⟨_, rfl⟩
  have hs : X.size = N := by rw [← hX, ← hN]; simp [ByteArray.size]
  have HN := Lib.hid hN
  have hz := zero_pg
  have hzr := zero_rp
  have hzp := zero_api
  rw [hP] at HI0 ⊢
  have hbig' : 200 < N := by rw [← hN]; exact hbig
  clear hbig
  clear ho hd hP hX hN hb
  go_enter Try.func5, Try.ntmps5
  go_wp2_with fail
  refine (awake_as _).mono ?_
  rintro e w1 ⟨rfl, hb⟩
  have HI1 := Lib.hid (HI0.out.next hb)
  clear hb
  have c5 : w1.cell? ⟨w.heap.size, 5, none⟩ = some (.string X) := by rw [cell_of_row _ _ _ _ _ _ (HI1.out.at (i := 0) rfl)]; exact HX5.out
  go_wp2_with fail
  refine (awake_as _).mono ?_
  rintro e w2 ⟨rfl, hb⟩
  have HI2 := Lib.hid (HI1.out.next hb)
  clear hb
  go_wp2_with fail
  go_ret
  exact ⟨rfl, HI2.out.below⟩

set_option maxHeartbeats 4000000 in
theorem plays_not (p : Pv) (b : List UInt8) (w : World) (ho : p.Ok) (hd : p.d.length ≤ maxLen) (hb : b.length = 64) (hbig : ¬ 200 < p.d.length) (hr : ¬ p.right) :
    Calls Try.prog 5 #[.agg (pgV p), .agg (bl b)] w fun e w' => e = .returned (.bool true) ∧ Below w.heap.size w w' := by
  have HO := Lib.hid ho
  have HD := Lib.hid hd
  have HBL := Lib.hid hb
  have HBS := Lib.hid (show (bl b).size = 64 by rw [bl_size, hb])
  have hI0 := (((Hv.start w).alloc (pgV p) 24).alloc (bl b) 26)
  simp only [List.nil_append, List.cons_append, World.size_alloc] at hI0
  have HI0 := Lib.hid hI0
  clear hI0
  obtain ⟨P, hP⟩ : ∃ P, pgV p = P := ⟨_, rfl⟩
  obtain ⟨X, hX⟩ : ∃ X : ByteArray, ⟨p.d.toArray⟩ = X := ⟨_, rfl⟩
  have HP := Lib.hid hP
  have HPS := Lib.hid (show P.size = 6 by rw [← hP]; rfl)
  have HP1 := Lib.hid (show P.all (·.oneCell') = true by rw [← hP]; exact pgV_one p)
  have HX5 := Lib.hid (show P[5]? = some (.string X) by rw [← hP, ← hX]; rfl)
  obtain ⟨N, hN⟩ : ∃ N, p.d.length = N := ⟨_, rfl⟩
  have hs : X.size = N := by rw [← hX, ← hN]; simp [ByteArray.size]
  have HN := Lib.hid hN
  have hz := zero_pg
  have hzr := zero_rp
  have hzp := zero_api
  rw [hP] at HI0 ⊢
  have hbig' : ¬ 200 < N := by rw [← hN]; exact hbig
  have HR := Lib.hid hr
  clear hbig hr
  clear ho hd hP hX hN hb
  go_enter Try.func5, Try.ntmps5
  go_wp2_with fail
  refine (awake_as _).mono ?_
  rintro e w1 ⟨rfl, hb⟩
  have HI1 := Lib.hid (HI0.out.next hb)
  clear hb
  have c5 : w1.cell? ⟨w.heap.size, 5, none⟩ = some (.string X) := by rw [cell_of_row _ _ _ _ _ _ (HI1.out.at (i := 0) rfl)]; exact HX5.out
  go_upto_region 3 with (first
    | (refine wpList_load_w rfl 24 _ rfl _ rfl (HI1.out.at (i := 0) rfl) Try.underlying24 rfl (info_rp HPS.out) ?_)
    | fail)
  go_wp2_with (first
    | (refine wpList_load_w rfl 24 _ rfl _ rfl (HI1.out.at (i := 0) rfl) Try.underlying24 rfl (info_rp HPS.out) ?_)
    | fail)
  rw [← HP.out]
  refine (of_any p _).mono ?_
  rintro e w2 ⟨rfl, hb⟩
  have HI2 := Lib.hid (HI1.out.next hb)
  clear hb
  go_wp2_with fail
  refine (lay_no p _ HD.out HR.out).mono ?_
  rintro e w3 ⟨rfl, hb⟩
  have HI3 := Lib.hid (HI2.out.next hb)
  clear hb
  rw [HP.out]
  obtain ⟨L, hL⟩ : ∃ L, bl (z64) = L := ⟨_, rfl⟩
  obtain ⟨Z, hZ⟩ : ∃ Z, bl z64 = Z := ⟨_, rfl⟩
  have HL := Lib.hid hL
  have HZ := Lib.hid hZ
  have HLS := Lib.hid (show L.size = 64 by rw [← hL, bl_size]; exact z64_len)
  have HZS := Lib.hid (show Z.size = 64 by rw [← hZ, bl_size, z64_len])
  have HL1 := Lib.hid (show L.all (·.oneCell') = true by rw [← hL]; exact bl_one _)
  rw [hL]
  rw [hZ] at hzp
  have hbz := built_api
  rw [hZ] at hbz
  clear hL hZ
  go_upto_region 4 with (first
    | (refine wpList_store_row rfl 27 _ _ rfl w3.heap.size L rfl rfl _ _ (heap_alloc_new _ _) (info_api HLS.out) (by first | rfl | rw [HZS.out, HLS.out]) HL1.out ?_)
    | fail)
  rw [World.setRow_alloc_new]
  have HI4 := Lib.hid (HI3.out.alloc L 27)
  have HGgb := Lib.hid (HI3.out.below.size)
  revert HI4 HGgb
  generalize World.alloc w3 _ = W4
  generalize w3.heap.size = gb
  intro HI4 HGgb
  simp only [List.nil_append, List.cons_append] at HI4
  have hE : ∀ w, (Op.equalIn 10000 27 (.agg L) (.agg Z)).run Try.prog w = .ok true w := fun w => by rw [← HL.out, ← HZ.out, bytes_is z64_len z64_len, decide_eq_true rfl]
  have hof := fun w => of_any p w
  have hrt := fun w => right_any p w HD.out
  have hrr := fun w => refRight_any p w HD.out
  rw [decide_eq_false HR.out] at hrt hrr
  rw [HP.out] at hof hrt hrr
  have HOF := Lib.hid hof
  have HRT := Lib.hid hrt
  have HRR := Lib.hid hrr
  clear hof hrt hrr
  go_wp2_with (first
    | (refine wpList_load_w rfl 24 _ rfl _ rfl (HI4.out.at (i := 0) rfl) Try.underlying24 rfl (info_rp HPS.out) ?_)
    | fail)
  refine (HRR.out _).mono ?_
  rintro e w5 ⟨rfl, hb⟩
  have HI5 := Lib.hid (HI4.out.next hb)
  clear hb
  go_wp2_with fail
  refine mf_start (Hv w [(w.heap.size, P, 24), (w.heap.size + 1, bl b, 26), (gb, L, 27)]) (fun _ => false) HI5.out.drew fun hS => ?_
  refine mf_yield (i := 0) (d := 29) (.agg P) rfl rfl (by kernel_rfl) (by kernel_rfl) (by kernel_rfl) (by kernel_rfl) hS (y_load_w (by rfl) rfl rfl (fun w' h => h.at (i := 0) rfl) Try.underlying24 rfl (info_rp HPS.out)) ?_
  simp only [Act.put, List.setIfInBounds_toArray, List.set_cons_zero, List.set_cons_succ]
  refine mf_yield (i := 3) (d := 32) (.bool false) rfl rfl (by kernel_rfl) (by kernel_rfl) (by kernel_rfl) (by kernel_rfl) hS (y_run (by rfl) fun _ => by rfl) ?_
  simp only [Act.put, List.setIfInBounds_toArray, List.set_cons_zero, List.set_cons_succ]
  refine mf_ready [1] (by kernel_rfl) (by simp) (af_call (i := 1) (d := 30) (R := fun v w' => v = .agg P ∧ Hv w [(w.heap.size, P, 24), (w.heap.size + 1, bl b, 26), (gb, L, 27)] w') #[.agg P] rfl rfl (by rfl) rfl enter_of (by kernel_rfl) ((HOF.out _).mono fun e w' h => ⟨_, h.1, rfl, hS.next h.2⟩) (fun v w' h => h.2) ?_ AllReadyF.nil)
  rintro v v1 ⟨rfl, h10⟩ hS10
  clear hS h10
  have hS := hS10
  clear hS10
  simp only [Act.put, List.setIfInBounds_toArray, List.set_cons_zero, List.set_cons_succ]
  refine mf_ready [2] (by kernel_rfl) (by simp) (af_call (i := 2) (d := 31) (R := fun v w' => v = .bool false ∧ Hv w [(w.heap.size, P, 24), (w.heap.size + 1, bl b, 26), (gb, L, 27)] w') #[.agg P] rfl rfl (by rfl) rfl enter_right (by kernel_rfl) ((HRT.out _).mono fun e w' h => ⟨_, h.1, rfl, hS.next h.2⟩) (fun v w' h => h.2) ?_ AllReadyF.nil)
  rintro v v2 ⟨rfl, h10⟩ hS10
  clear hS h10
  have hS := hS10
  clear hS10
  simp only [Act.put, List.setIfInBounds_toArray, List.set_cons_zero, List.set_cons_succ]
  refine mf_yield (i := 4) (d := 33) (.bool false) rfl rfl (by kernel_rfl) (by kernel_rfl) (by kernel_rfl) (by kernel_rfl) hS (y_neb (by rfl) rfl rfl rfl rfl) ?_
  simp only [Act.put, List.setIfInBounds_toArray, List.set_cons_zero, List.set_cons_succ]
  refine mf_yield (i := 5) (d := 34) (.bool false) rfl rfl (by kernel_rfl) (by kernel_rfl) (by kernel_rfl) (by kernel_rfl) hS (y_run (by rfl) fun _ => by rfl) ?_
  simp only [Act.put, List.setIfInBounds_toArray, List.set_cons_zero, List.set_cons_succ]
  refine mf_yield (i := 6) (d := 35) (.bool false) rfl rfl (by kernel_rfl) (by kernel_rfl) (by kernel_rfl) (by kernel_rfl) hS (y_run (by rfl) fun _ => by rfl) ?_
  simp only [Act.put, List.setIfInBounds_toArray, List.set_cons_zero, List.set_cons_succ]
  refine mf_yield (i := 7) (d := 36) (.bool false) rfl rfl (by kernel_rfl) (by kernel_rfl) (by kernel_rfl) (by kernel_rfl) hS (y_run (by rfl) fun _ => by rfl) ?_
  simp only [Act.put, List.setIfInBounds_toArray, List.set_cons_zero, List.set_cons_succ]
  refine mf_yield (i := 8) (d := 37) undef rfl rfl (by kernel_rfl) (by kernel_rfl) (by kernel_rfl) (by kernel_rfl) hS (y_skip (by rfl)) ?_
  simp only [Act.put, List.setIfInBounds_toArray, List.set_cons_zero, List.set_cons_succ]
  refine mf_yield (i := 9) (d := 38) undef rfl rfl (by kernel_rfl) (by kernel_rfl) (by kernel_rfl) (by kernel_rfl) hS (y_skip (by rfl)) ?_
  simp only [Act.put, List.setIfInBounds_toArray, List.set_cons_zero, List.set_cons_succ]
  refine mf_yield (i := 10) (d := 39) undef rfl rfl (by kernel_rfl) (by kernel_rfl) (by kernel_rfl) (by kernel_rfl) hS (y_skip (by rfl)) ?_
  simp only [Act.put, List.setIfInBounds_toArray, List.set_cons_zero, List.set_cons_succ]
  refine mf_yield (i := 11) (d := 40) undef rfl rfl (by kernel_rfl) (by kernel_rfl) (by kernel_rfl) (by kernel_rfl) hS (y_skip (by rfl)) ?_
  simp only [Act.put, List.setIfInBounds_toArray, List.set_cons_zero, List.set_cons_succ]
  refine mf_yield (i := 12) (d := 41) undef rfl rfl (by kernel_rfl) (by kernel_rfl) (by kernel_rfl) (by kernel_rfl) hS (y_skip (by rfl)) ?_
  simp only [Act.put, List.setIfInBounds_toArray, List.set_cons_zero, List.set_cons_succ]
  refine mf_yield (i := 13) (d := 42) undef rfl rfl (by kernel_rfl) (by kernel_rfl) (by kernel_rfl) (by kernel_rfl) hS (y_skip (by rfl)) ?_
  simp only [Act.put, List.setIfInBounds_toArray, List.set_cons_zero, List.set_cons_succ]
  refine mf_yield (i := 14) (d := 43) undef rfl rfl (by kernel_rfl) (by kernel_rfl) (by kernel_rfl) (by kernel_rfl) hS (y_skip (by rfl)) ?_
  simp only [Act.put, List.setIfInBounds_toArray, List.set_cons_zero, List.set_cons_succ]
  refine mf_yield (i := 15) (d := 44) undef rfl rfl (by kernel_rfl) (by kernel_rfl) (by kernel_rfl) (by kernel_rfl) hS (y_skip (by rfl)) ?_
  simp only [Act.put, List.setIfInBounds_toArray, List.set_cons_zero, List.set_cons_succ]
  refine mf_yield (i := 16) (d := 45) (.bool false) rfl rfl (by kernel_rfl) (by kernel_rfl) (by kernel_rfl) (by kernel_rfl) hS (y_run (by rfl) fun _ => by rfl) ?_
  simp only [Act.put, List.setIfInBounds_toArray, List.set_cons_zero, List.set_cons_succ]
  refine mf_yield (i := 17) (d := 46) (.bool false) rfl rfl (by kernel_rfl) (by kernel_rfl) (by kernel_rfl) (by kernel_rfl) hS (y_run (by rfl) fun _ => by rfl) ?_
  simp only [Act.put, List.setIfInBounds_toArray, List.set_cons_zero, List.set_cons_succ]
  refine mf_yield (i := 18) (d := 47) (.bool false) rfl rfl (by kernel_rfl) (by kernel_rfl) (by kernel_rfl) (by kernel_rfl) hS (y_run (by rfl) fun _ => by rfl) ?_
  simp only [Act.put, List.setIfInBounds_toArray, List.set_cons_zero, List.set_cons_succ]
  refine mf_yield (i := 19) (d := 48) (.bool false) rfl rfl (by kernel_rfl) (by kernel_rfl) (by kernel_rfl) (by kernel_rfl) hS (y_run (by rfl) fun _ => by rfl) ?_
  simp only [Act.put, List.setIfInBounds_toArray, List.set_cons_zero, List.set_cons_succ]
  refine mf_yield (i := 20) (d := 49) (.bool true) rfl rfl (by kernel_rfl) (by kernel_rfl) (by kernel_rfl) (by kernel_rfl) hS (y_not (b := false) (by rfl) rfl rfl) ?_
  simp only [Act.put, List.setIfInBounds_toArray, List.set_cons_zero, List.set_cons_succ]
  refine mf_yield (i := 21) (d := 50) (.bool true) rfl rfl (by kernel_rfl) (by kernel_rfl) (by kernel_rfl) (by kernel_rfl) hS (y_run (by rfl) fun _ => by rfl) ?_
  simp only [Act.put, List.setIfInBounds_toArray, List.set_cons_zero, List.set_cons_succ]
  refine mf_yield (i := 22) (d := 51) (.int .i64 1) rfl rfl (by kernel_rfl) (by kernel_rfl) (by kernel_rfl) (by kernel_rfl) hS (y_run (by rfl) fun _ => by rfl) ?_
  simp only [Act.put, List.setIfInBounds_toArray, List.set_cons_zero, List.set_cons_succ]
  refine mf_yield (i := 23) (d := 52) (.bool false) rfl rfl (by kernel_rfl) (by kernel_rfl) (by kernel_rfl) (by kernel_rfl) hS (y_neqK (by rfl) rfl Try.underlying28 rfl rfl (by decide)) ?_
  simp only [Act.put, List.setIfInBounds_toArray, List.set_cons_zero, List.set_cons_succ]
  refine mf_yield (i := 24) (d := 53) (.bool false) rfl rfl (by kernel_rfl) (by kernel_rfl) (by kernel_rfl) (by kernel_rfl) hS (y_run (by rfl) fun _ => by rfl) ?_
  simp only [Act.put, List.setIfInBounds_toArray, List.set_cons_zero, List.set_cons_succ]
  refine mf_yield (i := 25) (d := 54) (.agg L) rfl rfl (by kernel_rfl) (by kernel_rfl) (by kernel_rfl) (by kernel_rfl) hS (y_load_w (by rfl) rfl rfl (fun w' h => h.at (i := 2) rfl) Try.underlying27 rfl (info_api HLS.out)) ?_
  simp only [Act.put, List.setIfInBounds_toArray, List.set_cons_zero, List.set_cons_succ]
  refine mf_yield (i := 26) (d := 55) (.agg Z) rfl rfl (by kernel_rfl) (by kernel_rfl) (by kernel_rfl) (by kernel_rfl) hS (y_build_parts (L := []) (by rfl) rfl _ rfl hbz) ?_
  simp only [Act.put, List.setIfInBounds_toArray, List.set_cons_zero, List.set_cons_succ]
  refine mf_yield (i := 27) (d := 56) (.bool false) rfl rfl (by kernel_rfl) (by kernel_rfl) (by kernel_rfl) (by kernel_rfl) hS (y_neq (b := true) (by rfl) rfl rfl rfl (by kernel_rfl) hE) ?_
  simp only [Act.put, List.setIfInBounds_toArray, List.set_cons_zero, List.set_cons_succ]
  refine mf_yield (i := 28) (d := 57) (.bool false) rfl rfl (by kernel_rfl) (by kernel_rfl) (by kernel_rfl) (by kernel_rfl) hS (y_run (by rfl) fun _ => by rfl) ?_
  simp only [Act.put, List.setIfInBounds_toArray, List.set_cons_zero, List.set_cons_succ]
  refine mf_yield (i := 29) (d := 58) (.bool false) rfl rfl (by kernel_rfl) (by kernel_rfl) (by kernel_rfl) (by kernel_rfl) hS (y_run (by rfl) fun _ => by rfl) ?_
  simp only [Act.put, List.setIfInBounds_toArray, List.set_cons_zero, List.set_cons_succ]
  refine mf_yield (i := 30) (d := 59) (.bool false) rfl rfl (by kernel_rfl) (by kernel_rfl) (by kernel_rfl) (by kernel_rfl) hS (y_run (by rfl) fun _ => by rfl) ?_
  simp only [Act.put, List.setIfInBounds_toArray, List.set_cons_zero, List.set_cons_succ]
  refine mf_done (by kernel_rfl) ?_
  have HI6 := Lib.hid hS
  clear hS hE
  obtain ⟨Q, hQ⟩ : ∃ Q, pgV (rdV b) = Q := ⟨_, rfl⟩
  have HQ := Lib.hid hQ
  have HQS := Lib.hid (show Q.size = 6 by rw [← hQ]; rfl)
  have HQ1 := Lib.hid (show Q.all (·.oneCell') = true by rw [← hQ]; exact pgV_one _)
  obtain ⟨E, hEE⟩ : ∃ E, rdE b = E := ⟨_, rfl⟩
  obtain ⟨T, hT⟩ : ∃ T, pgV Pv.zero = T := ⟨_, rfl⟩
  have HTS := Lib.hid (show T.size = 6 by rw [← hT]; rfl)
  have hrd := fun w => read_as b w HBL.out
  have hrq := fun w => rread_as b w HBL.out
  have hpl := fun w => plain_any (rdV b) w
  rw [hT] at hz hzr
  simp only [hQ, hEE] at hrd hrq hpl
  have HRD := Lib.hid hrd
  have HRQ := Lib.hid hrq
  have HPL := Lib.hid hpl
  clear hQ hEE hT hrd hrq hpl
  go_wp2_with (first
    | (refine wpList_load_w rfl 27 _ rfl _ rfl (HI6.out.at (i := 1) rfl) Try.underlying27 rfl (info_api HBS.out) ?_)
    | (refine wpList_load_w rfl 26 _ rfl _ rfl (HI6.out.at (i := 1) rfl) Try.underlying26 rfl (info_64 HBS.out) ?_)
    | fail)
  refine (HRD.out _).mono ?_
  rintro e w7 ⟨rfl, hb⟩
  have HI7 := Lib.hid (HI6.out.next hb)
  clear hb
  go_upto_region 8 with (first
    | (refine wpList_store_row rfl 31 _ _ rfl w7.heap.size Q rfl rfl _ _ (heap_alloc_new _ _) (info_pg HQS.out) (by rw [HQS.out, HTS.out]) HQ1.out ?_)
    | fail)
  rw [World.setRow_alloc_new]
  have HI8 := Lib.hid (HI7.out.alloc Q 31)
  have HGgx := Lib.hid (HI7.out.below.size)
  revert HI8 HGgx
  generalize World.alloc w7 _ = W8
  generalize w7.heap.size = gx
  intro HI8 HGgx
  simp only [List.nil_append, List.cons_append] at HI8
  go_wp2_with (first
    | (refine wpList_load_w rfl 26 _ rfl _ rfl (HI8.out.at (i := 1) rfl) Try.underlying26 rfl (info_64 HBS.out) ?_)
    | fail)
  refine (HRQ.out _).mono ?_
  rintro e w9 ⟨rfl, hb⟩
  have HI9 := Lib.hid (HI8.out.next hb)
  clear hb
  go_upto_region 9 with (first
    | (refine wpList_store_row rfl 24 _ _ rfl w9.heap.size Q rfl rfl _ _ (heap_alloc_new _ _) (info_rp HQS.out) (by rw [HQS.out, HTS.out]) HQ1.out ?_)
    | fail)
  rw [World.setRow_alloc_new]
  have HI10 := Lib.hid (HI9.out.alloc Q 24)
  have HGgy := Lib.hid (HI9.out.below.size)
  revert HI10 HGgy
  generalize World.alloc w9 _ = W10
  generalize w9.heap.size = gy
  intro HI10 HGgy
  simp only [List.nil_append, List.cons_append] at HI10
  refine mf_start (Hv w [(w.heap.size, P, 24), (w.heap.size + 1, bl b, 26), (gb, L, 27), (gx, Q, 31), (gy, Q, 24)]) (fun _ => false) HI10.out.drew fun hS => ?_
  refine mf_yield (i := 0) (d := 70) (.agg Q) rfl rfl (by kernel_rfl) (by kernel_rfl) (by kernel_rfl) (by kernel_rfl) hS (y_load_w (by rfl) rfl rfl (fun w' h => h.at (i := 3) rfl) Try.underlying31 rfl (info_pg HQS.out)) ?_
  simp only [Act.put, List.setIfInBounds_toArray, List.set_cons_zero, List.set_cons_succ]
  refine mf_yield (i := 2) (d := 72) (.agg Q) rfl rfl (by kernel_rfl) (by kernel_rfl) (by kernel_rfl) (by kernel_rfl) hS (y_load_w (by rfl) rfl rfl (fun w' h => h.at (i := 4) rfl) Try.underlying24 rfl (info_rp HQS.out)) ?_
  simp only [Act.put, List.setIfInBounds_toArray, List.set_cons_zero, List.set_cons_succ]
  refine mf_ready [1] (by kernel_rfl) (by simp) (af_call (i := 1) (d := 71) (R := fun v w' => v = .agg Q ∧ Hv w [(w.heap.size, P, 24), (w.heap.size + 1, bl b, 26), (gb, L, 27), (gx, Q, 31), (gy, Q, 24)] w') #[.agg Q] rfl rfl (by rfl) rfl enter_plain (by kernel_rfl) ((HPL.out _).mono fun e w' h => ⟨_, h.1, rfl, hS.next h.2⟩) (fun v w' h => h.2) ?_ AllReadyF.nil)
  rintro v v9 ⟨rfl, h10⟩ hS10
  clear hS h10
  have hS := hS10
  clear hS10
  simp only [Act.put, List.setIfInBounds_toArray, List.set_cons_zero, List.set_cons_succ]
  refine mf_yield (i := 3) (d := 73) (.bool true) rfl rfl (by kernel_rfl) (by kernel_rfl) (by kernel_rfl) (by kernel_rfl) hS (y_eql (by rfl) rfl rfl rfl (by kernel_rfl) (fun w => by rw [← HQ.out, rpages_is, pEq_self])) ?_
  simp only [Act.put, List.setIfInBounds_toArray, List.set_cons_zero, List.set_cons_succ]
  refine mf_yield (i := 4) (d := 74) (.bool true) rfl rfl (by kernel_rfl) (by kernel_rfl) (by kernel_rfl) (by kernel_rfl) hS (y_run (by rfl) fun _ => by rfl) ?_
  simp only [Act.put, List.setIfInBounds_toArray, List.set_cons_zero, List.set_cons_succ]
  refine mf_yield (i := 5) (d := 75) (.int .i64 ((E : Nat))) rfl rfl (by kernel_rfl) (by kernel_rfl) (by kernel_rfl) (by kernel_rfl) hS (y_run (by rfl) fun _ => by rfl) ?_
  simp only [Act.put, List.setIfInBounds_toArray, List.set_cons_zero, List.set_cons_succ]
  refine mf_yield (i := 6) (d := 76) (.int .i64 ((E : Nat))) rfl rfl (by kernel_rfl) (by kernel_rfl) (by kernel_rfl) (by kernel_rfl) hS (y_run (by rfl) fun _ => by rfl) ?_
  simp only [Act.put, List.setIfInBounds_toArray, List.set_cons_zero, List.set_cons_succ]
  refine mf_yield (i := 7) (d := 77) (.bool true) rfl rfl (by kernel_rfl) (by kernel_rfl) (by kernel_rfl) (by kernel_rfl) hS (y_eqlK (by rfl) rfl Try.underlying3 rfl rfl (by simp)) ?_
  simp only [Act.put, List.setIfInBounds_toArray, List.set_cons_zero, List.set_cons_succ]
  refine mf_yield (i := 8) (d := 78) (.bool true) rfl rfl (by kernel_rfl) (by kernel_rfl) (by kernel_rfl) (by kernel_rfl) hS (y_run (by rfl) fun _ => by rfl) ?_
  simp only [Act.put, List.setIfInBounds_toArray, List.set_cons_zero, List.set_cons_succ]
  refine mf_yield (i := 9) (d := 4) (.bool true) rfl rfl (by kernel_rfl) (by kernel_rfl) (by kernel_rfl) (by kernel_rfl) hS (y_run (by rfl) fun _ => by rfl) ?_
  simp only [Act.put, List.setIfInBounds_toArray, List.set_cons_zero, List.set_cons_succ]
  refine mf_done (by kernel_rfl) ?_
  have HB := Lib.hid hS.below
  clear hS
  go_wp2_with fail
  go_ret
  exact ⟨rfl, HB.out⟩

set_option maxHeartbeats 4000000 in
theorem plays_right (p : Pv) (b : List UInt8) (w : World) (ho : p.Ok) (hd : p.d.length ≤ maxLen) (hb : b.length = 64) (hbig : ¬ 200 < p.d.length) (hr : p.right) :
    Calls Try.prog 5 #[.agg (pgV p), .agg (bl b)] w fun e w' => e = .returned (.bool true) ∧ Below w.heap.size w w' := by
  have HO := Lib.hid ho
  have HD := Lib.hid hd
  have HBL := Lib.hid hb
  have HBS := Lib.hid (show (bl b).size = 64 by rw [bl_size, hb])
  have hI0 := (((Hv.start w).alloc (pgV p) 24).alloc (bl b) 26)
  simp only [List.nil_append, List.cons_append, World.size_alloc] at hI0
  have HI0 := Lib.hid hI0
  clear hI0
  obtain ⟨P, hP⟩ : ∃ P, pgV p = P := ⟨_, rfl⟩
  obtain ⟨X, hX⟩ : ∃ X : ByteArray, ⟨p.d.toArray⟩ = X := ⟨_, rfl⟩
  have HP := Lib.hid hP
  have HPS := Lib.hid (show P.size = 6 by rw [← hP]; rfl)
  have HP1 := Lib.hid (show P.all (·.oneCell') = true by rw [← hP]; exact pgV_one p)
  have HX5 := Lib.hid (show P[5]? = some (.string X) by rw [← hP, ← hX]; rfl)
  obtain ⟨N, hN⟩ : ∃ N, p.d.length = N := ⟨_, rfl⟩
  have hs : X.size = N := by rw [← hX, ← hN]; simp [ByteArray.size]
  have HN := Lib.hid hN
  have hz := zero_pg
  have hzr := zero_rp
  have hzp := zero_api
  rw [hP] at HI0 ⊢
  have hbig' : ¬ 200 < N := by rw [← hN]; exact hbig
  have HR := Lib.hid hr
  clear hbig hr
  clear ho hd hP hX hN hb
  go_enter Try.func5, Try.ntmps5
  go_wp2_with fail
  refine (awake_as _).mono ?_
  rintro e w1 ⟨rfl, hb⟩
  have HI1 := Lib.hid (HI0.out.next hb)
  clear hb
  have c5 : w1.cell? ⟨w.heap.size, 5, none⟩ = some (.string X) := by rw [cell_of_row _ _ _ _ _ _ (HI1.out.at (i := 0) rfl)]; exact HX5.out
  go_upto_region 3 with (first
    | (refine wpList_load_w rfl 24 _ rfl _ rfl (HI1.out.at (i := 0) rfl) Try.underlying24 rfl (info_rp HPS.out) ?_)
    | fail)
  go_wp2_with (first
    | (refine wpList_load_w rfl 24 _ rfl _ rfl (HI1.out.at (i := 0) rfl) Try.underlying24 rfl (info_rp HPS.out) ?_)
    | fail)
  rw [← HP.out]
  refine (of_any p _).mono ?_
  rintro e w2 ⟨rfl, hb⟩
  have HI2 := Lib.hid (HI1.out.next hb)
  clear hb
  go_wp2_with fail
  refine (lay_yes p _ HD.out HO.out HR.out).mono ?_
  rintro e w3 ⟨rfl, hb⟩
  have HI3 := Lib.hid (HI2.out.next hb)
  clear hb
  rw [HP.out]
  obtain ⟨L, hL⟩ : ∃ L, bl (p.lay) = L := ⟨_, rfl⟩
  obtain ⟨Z, hZ⟩ : ∃ Z, bl z64 = Z := ⟨_, rfl⟩
  have HL := Lib.hid hL
  have HZ := Lib.hid hZ
  have HLS := Lib.hid (show L.size = 64 by rw [← hL, bl_size]; exact Pv.lay_length HR.out)
  have HZS := Lib.hid (show Z.size = 64 by rw [← hZ, bl_size, z64_len])
  have HL1 := Lib.hid (show L.all (·.oneCell') = true by rw [← hL]; exact bl_one _)
  rw [hL]
  rw [hZ] at hzp
  have hbz := built_api
  rw [hZ] at hbz
  clear hL hZ
  go_upto_region 4 with (first
    | (refine wpList_store_row rfl 27 _ _ rfl w3.heap.size L rfl rfl _ _ (heap_alloc_new _ _) (info_api HLS.out) (by first | rfl | rw [HZS.out, HLS.out]) HL1.out ?_)
    | fail)
  rw [World.setRow_alloc_new]
  have HI4 := Lib.hid (HI3.out.alloc L 27)
  have HGgb := Lib.hid (HI3.out.below.size)
  revert HI4 HGgb
  generalize World.alloc w3 _ = W4
  generalize w3.heap.size = gb
  intro HI4 HGgb
  simp only [List.nil_append, List.cons_append] at HI4
  have hE : ∀ w, (Op.equalIn 10000 27 (.agg L) (.agg L)).run Try.prog w = .ok true w := fun w => by rw [← HL.out, bytes_is (Pv.lay_length HR.out) (Pv.lay_length HR.out), decide_eq_true rfl]
  have hof := fun w => of_any p w
  have hrt := fun w => right_any p w HD.out
  have hrr := fun w => refRight_any p w HD.out
  rw [decide_eq_true HR.out] at hrt hrr
  rw [HP.out] at hof hrt hrr
  have HOF := Lib.hid hof
  have HRT := Lib.hid hrt
  have HRR := Lib.hid hrr
  have hrl := fun w => refLay_yes p w HO.out HR.out
  rw [HP.out, HL.out] at hrl
  have HRL := Lib.hid hrl
  clear hrl
  clear hof hrt hrr
  go_wp2_with (first
    | (refine wpList_load_w rfl 24 _ rfl _ rfl (HI4.out.at (i := 0) rfl) Try.underlying24 rfl (info_rp HPS.out) ?_)
    | fail)
  refine (HRR.out _).mono ?_
  rintro e w5 ⟨rfl, hb⟩
  have HI5 := Lib.hid (HI4.out.next hb)
  clear hb
  go_wp2_with fail
  refine mf_start (Hv w [(w.heap.size, P, 24), (w.heap.size + 1, bl b, 26), (gb, L, 27)]) (fun _ => false) HI5.out.drew fun hS => ?_
  refine mf_yield (i := 0) (d := 29) (.agg P) rfl rfl (by kernel_rfl) (by kernel_rfl) (by kernel_rfl) (by kernel_rfl) hS (y_load_w (by rfl) rfl rfl (fun w' h => h.at (i := 0) rfl) Try.underlying24 rfl (info_rp HPS.out)) ?_
  simp only [Act.put, List.setIfInBounds_toArray, List.set_cons_zero, List.set_cons_succ]
  refine mf_yield (i := 3) (d := 32) (.bool true) rfl rfl (by kernel_rfl) (by kernel_rfl) (by kernel_rfl) (by kernel_rfl) hS (y_run (by rfl) fun _ => by rfl) ?_
  simp only [Act.put, List.setIfInBounds_toArray, List.set_cons_zero, List.set_cons_succ]
  refine mf_ready [1] (by kernel_rfl) (by simp) (af_call (i := 1) (d := 30) (R := fun v w' => v = .agg P ∧ Hv w [(w.heap.size, P, 24), (w.heap.size + 1, bl b, 26), (gb, L, 27)] w') #[.agg P] rfl rfl (by rfl) rfl enter_of (by kernel_rfl) ((HOF.out _).mono fun e w' h => ⟨_, h.1, rfl, hS.next h.2⟩) (fun v w' h => h.2) ?_ AllReadyF.nil)
  rintro v v1 ⟨rfl, h10⟩ hS10
  clear hS h10
  have hS := hS10
  clear hS10
  simp only [Act.put, List.setIfInBounds_toArray, List.set_cons_zero, List.set_cons_succ]
  refine mf_ready [2] (by kernel_rfl) (by simp) (af_call (i := 2) (d := 31) (R := fun v w' => v = .bool true ∧ Hv w [(w.heap.size, P, 24), (w.heap.size + 1, bl b, 26), (gb, L, 27)] w') #[.agg P] rfl rfl (by rfl) rfl enter_right (by kernel_rfl) ((HRT.out _).mono fun e w' h => ⟨_, h.1, rfl, hS.next h.2⟩) (fun v w' h => h.2) ?_ AllReadyF.nil)
  rintro v v2 ⟨rfl, h10⟩ hS10
  clear hS h10
  have hS := hS10
  clear hS10
  simp only [Act.put, List.setIfInBounds_toArray, List.set_cons_zero, List.set_cons_succ]
  refine mf_yield (i := 4) (d := 33) (.bool false) rfl rfl (by kernel_rfl) (by kernel_rfl) (by kernel_rfl) (by kernel_rfl) hS (y_neb (by rfl) rfl rfl rfl rfl) ?_
  simp only [Act.put, List.setIfInBounds_toArray, List.set_cons_zero, List.set_cons_succ]
  refine mf_yield (i := 5) (d := 34) (.bool false) rfl rfl (by kernel_rfl) (by kernel_rfl) (by kernel_rfl) (by kernel_rfl) hS (y_run (by rfl) fun _ => by rfl) ?_
  simp only [Act.put, List.setIfInBounds_toArray, List.set_cons_zero, List.set_cons_succ]
  refine mf_yield (i := 6) (d := 35) (.bool true) rfl rfl (by kernel_rfl) (by kernel_rfl) (by kernel_rfl) (by kernel_rfl) hS (y_run (by rfl) fun _ => by rfl) ?_
  simp only [Act.put, List.setIfInBounds_toArray, List.set_cons_zero, List.set_cons_succ]
  refine mf_yield (i := 7) (d := 36) (.bool true) rfl rfl (by kernel_rfl) (by kernel_rfl) (by kernel_rfl) (by kernel_rfl) hS (y_run (by rfl) fun _ => by rfl) ?_
  simp only [Act.put, List.setIfInBounds_toArray, List.set_cons_zero, List.set_cons_succ]
  refine mf_yield (i := 8) (d := 37) (.int .i64 0) rfl rfl (by kernel_rfl) (by kernel_rfl) (by kernel_rfl) (by kernel_rfl) hS (y_run (by rfl) fun _ => by rfl) ?_
  simp only [Act.put, List.setIfInBounds_toArray, List.set_cons_zero, List.set_cons_succ]
  refine mf_yield (i := 9) (d := 38) (.bool false) rfl rfl (by kernel_rfl) (by kernel_rfl) (by kernel_rfl) (by kernel_rfl) hS (y_neqK (by rfl) rfl Try.underlying28 rfl rfl (by decide)) ?_
  simp only [Act.put, List.setIfInBounds_toArray, List.set_cons_zero, List.set_cons_succ]
  refine mf_yield (i := 10) (d := 39) (.bool false) rfl rfl (by kernel_rfl) (by kernel_rfl) (by kernel_rfl) (by kernel_rfl) hS (y_run (by rfl) fun _ => by rfl) ?_
  simp only [Act.put, List.setIfInBounds_toArray, List.set_cons_zero, List.set_cons_succ]
  refine mf_yield (i := 11) (d := 40) (.agg L) rfl rfl (by kernel_rfl) (by kernel_rfl) (by kernel_rfl) (by kernel_rfl) hS (y_load_w (by rfl) rfl rfl (fun w' h => h.at (i := 2) rfl) Try.underlying27 rfl (info_api HLS.out)) ?_
  simp only [Act.put, List.setIfInBounds_toArray, List.set_cons_zero, List.set_cons_succ]
  refine mf_yield (i := 12) (d := 41) (.agg P) rfl rfl (by kernel_rfl) (by kernel_rfl) (by kernel_rfl) (by kernel_rfl) hS (y_load_w (by rfl) rfl rfl (fun w' h => h.at (i := 0) rfl) Try.underlying24 rfl (info_rp HPS.out)) ?_
  simp only [Act.put, List.setIfInBounds_toArray, List.set_cons_zero, List.set_cons_succ]
  refine mf_ready [13] (by kernel_rfl) (by simp) (af_call (i := 13) (d := 42) (R := fun v w' => v = .agg L ∧ Hv w [(w.heap.size, P, 24), (w.heap.size + 1, bl b, 26), (gb, L, 27)] w') #[.agg P] rfl rfl (by rfl) rfl enter_rlay (by kernel_rfl) ((HRL.out _).mono fun e w' h => ⟨_, h.1, rfl, hS.next h.2⟩) (fun v w' h => h.2) ?_ AllReadyF.nil)
  rintro v v3 ⟨rfl, h10⟩ hS10
  clear hS h10
  have hS := hS10
  clear hS10
  simp only [Act.put, List.setIfInBounds_toArray, List.set_cons_zero, List.set_cons_succ]
  refine mf_yield (i := 14) (d := 43) (.bool false) rfl rfl (by kernel_rfl) (by kernel_rfl) (by kernel_rfl) (by kernel_rfl) hS (y_neq (b := true) (by rfl) rfl rfl rfl (by kernel_rfl) hE) ?_
  simp only [Act.put, List.setIfInBounds_toArray, List.set_cons_zero, List.set_cons_succ]
  refine mf_yield (i := 15) (d := 44) (.bool false) rfl rfl (by kernel_rfl) (by kernel_rfl) (by kernel_rfl) (by kernel_rfl) hS (y_run (by rfl) fun _ => by rfl) ?_
  simp only [Act.put, List.setIfInBounds_toArray, List.set_cons_zero, List.set_cons_succ]
  refine mf_yield (i := 16) (d := 45) (.bool false) rfl rfl (by kernel_rfl) (by kernel_rfl) (by kernel_rfl) (by kernel_rfl) hS (y_run (by rfl) fun _ => by rfl) ?_
  simp only [Act.put, List.setIfInBounds_toArray, List.set_cons_zero, List.set_cons_succ]
  refine mf_yield (i := 17) (d := 46) (.bool false) rfl rfl (by kernel_rfl) (by kernel_rfl) (by kernel_rfl) (by kernel_rfl) hS (y_run (by rfl) fun _ => by rfl) ?_
  simp only [Act.put, List.setIfInBounds_toArray, List.set_cons_zero, List.set_cons_succ]
  refine mf_yield (i := 18) (d := 47) (.bool false) rfl rfl (by kernel_rfl) (by kernel_rfl) (by kernel_rfl) (by kernel_rfl) hS (y_run (by rfl) fun _ => by rfl) ?_
  simp only [Act.put, List.setIfInBounds_toArray, List.set_cons_zero, List.set_cons_succ]
  refine mf_yield (i := 19) (d := 48) (.bool true) rfl rfl (by kernel_rfl) (by kernel_rfl) (by kernel_rfl) (by kernel_rfl) hS (y_run (by rfl) fun _ => by rfl) ?_
  simp only [Act.put, List.setIfInBounds_toArray, List.set_cons_zero, List.set_cons_succ]
  refine mf_yield (i := 20) (d := 49) (.bool false) rfl rfl (by kernel_rfl) (by kernel_rfl) (by kernel_rfl) (by kernel_rfl) hS (y_not (b := true) (by rfl) rfl rfl) ?_
  simp only [Act.put, List.setIfInBounds_toArray, List.set_cons_zero, List.set_cons_succ]
  refine mf_yield (i := 21) (d := 50) (.bool false) rfl rfl (by kernel_rfl) (by kernel_rfl) (by kernel_rfl) (by kernel_rfl) hS (y_run (by rfl) fun _ => by rfl) ?_
  simp only [Act.put, List.setIfInBounds_toArray, List.set_cons_zero, List.set_cons_succ]
  refine mf_yield (i := 22) (d := 51) undef rfl rfl (by kernel_rfl) (by kernel_rfl) (by kernel_rfl) (by kernel_rfl) hS (y_skip (by rfl)) ?_
  simp only [Act.put, List.setIfInBounds_toArray, List.set_cons_zero, List.set_cons_succ]
  refine mf_yield (i := 23) (d := 52) undef rfl rfl (by kernel_rfl) (by kernel_rfl) (by kernel_rfl) (by kernel_rfl) hS (y_skip (by rfl)) ?_
  simp only [Act.put, List.setIfInBounds_toArray, List.set_cons_zero, List.set_cons_succ]
  refine mf_yield (i := 24) (d := 53) undef rfl rfl (by kernel_rfl) (by kernel_rfl) (by kernel_rfl) (by kernel_rfl) hS (y_skip (by rfl)) ?_
  simp only [Act.put, List.setIfInBounds_toArray, List.set_cons_zero, List.set_cons_succ]
  refine mf_yield (i := 25) (d := 54) undef rfl rfl (by kernel_rfl) (by kernel_rfl) (by kernel_rfl) (by kernel_rfl) hS (y_skip (by rfl)) ?_
  simp only [Act.put, List.setIfInBounds_toArray, List.set_cons_zero, List.set_cons_succ]
  refine mf_yield (i := 26) (d := 55) undef rfl rfl (by kernel_rfl) (by kernel_rfl) (by kernel_rfl) (by kernel_rfl) hS (y_skip (by rfl)) ?_
  simp only [Act.put, List.setIfInBounds_toArray, List.set_cons_zero, List.set_cons_succ]
  refine mf_yield (i := 27) (d := 56) undef rfl rfl (by kernel_rfl) (by kernel_rfl) (by kernel_rfl) (by kernel_rfl) hS (y_skip (by rfl)) ?_
  simp only [Act.put, List.setIfInBounds_toArray, List.set_cons_zero, List.set_cons_succ]
  refine mf_yield (i := 28) (d := 57) undef rfl rfl (by kernel_rfl) (by kernel_rfl) (by kernel_rfl) (by kernel_rfl) hS (y_skip (by rfl)) ?_
  simp only [Act.put, List.setIfInBounds_toArray, List.set_cons_zero, List.set_cons_succ]
  refine mf_yield (i := 29) (d := 58) (.bool false) rfl rfl (by kernel_rfl) (by kernel_rfl) (by kernel_rfl) (by kernel_rfl) hS (y_run (by rfl) fun _ => by rfl) ?_
  simp only [Act.put, List.setIfInBounds_toArray, List.set_cons_zero, List.set_cons_succ]
  refine mf_yield (i := 30) (d := 59) (.bool false) rfl rfl (by kernel_rfl) (by kernel_rfl) (by kernel_rfl) (by kernel_rfl) hS (y_run (by rfl) fun _ => by rfl) ?_
  simp only [Act.put, List.setIfInBounds_toArray, List.set_cons_zero, List.set_cons_succ]
  refine mf_done (by kernel_rfl) ?_
  have HI6 := Lib.hid hS
  clear hS hE
  obtain ⟨Q, hQ⟩ : ∃ Q, pgV (rdV b) = Q := ⟨_, rfl⟩
  have HQ := Lib.hid hQ
  have HQS := Lib.hid (show Q.size = 6 by rw [← hQ]; rfl)
  have HQ1 := Lib.hid (show Q.all (·.oneCell') = true by rw [← hQ]; exact pgV_one _)
  obtain ⟨E, hEE⟩ : ∃ E, rdE b = E := ⟨_, rfl⟩
  obtain ⟨T, hT⟩ : ∃ T, pgV Pv.zero = T := ⟨_, rfl⟩
  have HTS := Lib.hid (show T.size = 6 by rw [← hT]; rfl)
  have hrd := fun w => read_as b w HBL.out
  have hrq := fun w => rread_as b w HBL.out
  have hpl := fun w => plain_any (rdV b) w
  rw [hT] at hz hzr
  simp only [hQ, hEE] at hrd hrq hpl
  have HRD := Lib.hid hrd
  have HRQ := Lib.hid hrq
  have HPL := Lib.hid hpl
  clear hQ hEE hT hrd hrq hpl
  go_wp2_with (first
    | (refine wpList_load_w rfl 27 _ rfl _ rfl (HI6.out.at (i := 1) rfl) Try.underlying27 rfl (info_api HBS.out) ?_)
    | (refine wpList_load_w rfl 26 _ rfl _ rfl (HI6.out.at (i := 1) rfl) Try.underlying26 rfl (info_64 HBS.out) ?_)
    | fail)
  refine (HRD.out _).mono ?_
  rintro e w7 ⟨rfl, hb⟩
  have HI7 := Lib.hid (HI6.out.next hb)
  clear hb
  go_upto_region 8 with (first
    | (refine wpList_store_row rfl 31 _ _ rfl w7.heap.size Q rfl rfl _ _ (heap_alloc_new _ _) (info_pg HQS.out) (by rw [HQS.out, HTS.out]) HQ1.out ?_)
    | fail)
  rw [World.setRow_alloc_new]
  have HI8 := Lib.hid (HI7.out.alloc Q 31)
  have HGgx := Lib.hid (HI7.out.below.size)
  revert HI8 HGgx
  generalize World.alloc w7 _ = W8
  generalize w7.heap.size = gx
  intro HI8 HGgx
  simp only [List.nil_append, List.cons_append] at HI8
  go_wp2_with (first
    | (refine wpList_load_w rfl 26 _ rfl _ rfl (HI8.out.at (i := 1) rfl) Try.underlying26 rfl (info_64 HBS.out) ?_)
    | fail)
  refine (HRQ.out _).mono ?_
  rintro e w9 ⟨rfl, hb⟩
  have HI9 := Lib.hid (HI8.out.next hb)
  clear hb
  go_upto_region 9 with (first
    | (refine wpList_store_row rfl 24 _ _ rfl w9.heap.size Q rfl rfl _ _ (heap_alloc_new _ _) (info_rp HQS.out) (by rw [HQS.out, HTS.out]) HQ1.out ?_)
    | fail)
  rw [World.setRow_alloc_new]
  have HI10 := Lib.hid (HI9.out.alloc Q 24)
  have HGgy := Lib.hid (HI9.out.below.size)
  revert HI10 HGgy
  generalize World.alloc w9 _ = W10
  generalize w9.heap.size = gy
  intro HI10 HGgy
  simp only [List.nil_append, List.cons_append] at HI10
  refine mf_start (Hv w [(w.heap.size, P, 24), (w.heap.size + 1, bl b, 26), (gb, L, 27), (gx, Q, 31), (gy, Q, 24)]) (fun _ => false) HI10.out.drew fun hS => ?_
  refine mf_yield (i := 0) (d := 70) (.agg Q) rfl rfl (by kernel_rfl) (by kernel_rfl) (by kernel_rfl) (by kernel_rfl) hS (y_load_w (by rfl) rfl rfl (fun w' h => h.at (i := 3) rfl) Try.underlying31 rfl (info_pg HQS.out)) ?_
  simp only [Act.put, List.setIfInBounds_toArray, List.set_cons_zero, List.set_cons_succ]
  refine mf_yield (i := 2) (d := 72) (.agg Q) rfl rfl (by kernel_rfl) (by kernel_rfl) (by kernel_rfl) (by kernel_rfl) hS (y_load_w (by rfl) rfl rfl (fun w' h => h.at (i := 4) rfl) Try.underlying24 rfl (info_rp HQS.out)) ?_
  simp only [Act.put, List.setIfInBounds_toArray, List.set_cons_zero, List.set_cons_succ]
  refine mf_ready [1] (by kernel_rfl) (by simp) (af_call (i := 1) (d := 71) (R := fun v w' => v = .agg Q ∧ Hv w [(w.heap.size, P, 24), (w.heap.size + 1, bl b, 26), (gb, L, 27), (gx, Q, 31), (gy, Q, 24)] w') #[.agg Q] rfl rfl (by rfl) rfl enter_plain (by kernel_rfl) ((HPL.out _).mono fun e w' h => ⟨_, h.1, rfl, hS.next h.2⟩) (fun v w' h => h.2) ?_ AllReadyF.nil)
  rintro v v9 ⟨rfl, h10⟩ hS10
  clear hS h10
  have hS := hS10
  clear hS10
  simp only [Act.put, List.setIfInBounds_toArray, List.set_cons_zero, List.set_cons_succ]
  refine mf_yield (i := 3) (d := 73) (.bool true) rfl rfl (by kernel_rfl) (by kernel_rfl) (by kernel_rfl) (by kernel_rfl) hS (y_eql (by rfl) rfl rfl rfl (by kernel_rfl) (fun w => by rw [← HQ.out, rpages_is, pEq_self])) ?_
  simp only [Act.put, List.setIfInBounds_toArray, List.set_cons_zero, List.set_cons_succ]
  refine mf_yield (i := 4) (d := 74) (.bool true) rfl rfl (by kernel_rfl) (by kernel_rfl) (by kernel_rfl) (by kernel_rfl) hS (y_run (by rfl) fun _ => by rfl) ?_
  simp only [Act.put, List.setIfInBounds_toArray, List.set_cons_zero, List.set_cons_succ]
  refine mf_yield (i := 5) (d := 75) (.int .i64 ((E : Nat))) rfl rfl (by kernel_rfl) (by kernel_rfl) (by kernel_rfl) (by kernel_rfl) hS (y_run (by rfl) fun _ => by rfl) ?_
  simp only [Act.put, List.setIfInBounds_toArray, List.set_cons_zero, List.set_cons_succ]
  refine mf_yield (i := 6) (d := 76) (.int .i64 ((E : Nat))) rfl rfl (by kernel_rfl) (by kernel_rfl) (by kernel_rfl) (by kernel_rfl) hS (y_run (by rfl) fun _ => by rfl) ?_
  simp only [Act.put, List.setIfInBounds_toArray, List.set_cons_zero, List.set_cons_succ]
  refine mf_yield (i := 7) (d := 77) (.bool true) rfl rfl (by kernel_rfl) (by kernel_rfl) (by kernel_rfl) (by kernel_rfl) hS (y_eqlK (by rfl) rfl Try.underlying3 rfl rfl (by simp)) ?_
  simp only [Act.put, List.setIfInBounds_toArray, List.set_cons_zero, List.set_cons_succ]
  refine mf_yield (i := 8) (d := 78) (.bool true) rfl rfl (by kernel_rfl) (by kernel_rfl) (by kernel_rfl) (by kernel_rfl) hS (y_run (by rfl) fun _ => by rfl) ?_
  simp only [Act.put, List.setIfInBounds_toArray, List.set_cons_zero, List.set_cons_succ]
  refine mf_yield (i := 9) (d := 4) (.bool true) rfl rfl (by kernel_rfl) (by kernel_rfl) (by kernel_rfl) (by kernel_rfl) hS (y_run (by rfl) fun _ => by rfl) ?_
  simp only [Act.put, List.setIfInBounds_toArray, List.set_cons_zero, List.set_cons_succ]
  refine mf_done (by kernel_rfl) ?_
  have HB := Lib.hid hS.below
  clear hS
  go_wp2_with fail
  go_ret
  exact ⟨rfl, HB.out⟩

theorem plays_all (p : Pv) (b : List UInt8) (T : Array Value) (w : World) (ho : p.Ok) (hd : p.d.length ≤ maxLen) (hb : Byts b T) :
    Calls Try.prog 5 #[.agg (pgV p), .agg T] w fun e w' => e = .returned (.bool true) ∧ Below w.heap.size w w' := by
  rw [hb.eq]
  by_cases hbig : 200 < p.d.length
  · exact plays_big p b w ho hd hb.1 hbig
  · by_cases hr : p.right
    · exact plays_right p b w ho hd hb.1 hbig hr
    · exact plays_not p b w ho hd hb.1 hbig hr
end Go.Proofs.Yteahbdnnieaaaaa.Pa
