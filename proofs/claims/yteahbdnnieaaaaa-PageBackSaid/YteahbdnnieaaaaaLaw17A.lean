/- The statement PageBack. -/
import Derived.Test.YteahbdnnieaaaaaPaH
import Derived.Test.YteahbdnnieaaaaaPaI
import Derived.Test.YteahbdnnieaaaaaHv
set_option maxRecDepth 100000
set_option linter.unusedVariables false
set_option linter.unusedSimpArgs false
namespace Go.Proofs.Yteahbdnnieaaaaa.Pa
open Go.RowKit Go.Proofs.Yteahbdnnieaaaaa.Row Go.Proofs.Yteahbdnnieaaaaa.Crc

theorem xor_id {x y : Nat} (h : x ^^^ y = x) : y = 0 := by
  have e : x ^^^ (x ^^^ y) = x ^^^ x := by rw [h]
  rwa [← Nat.xor_assoc, Nat.xor_self, Nat.zero_xor] at e
theorem enter_plain (args : Array Value) (w : World) : (callFunc 13 args).run Try.prog w = .ok (.enter 13 args) w := run_enter Try.func13 (by kernel_rfl) rfl args w
theorem read_lay (p : Pv) (w : World) (ho : p.Ok) (hr : p.right) :
    Calls Try.prog 12 #[.agg (bl p.lay)] w fun e w' => e = .returned (.tuple #[.agg (pgV p), .int .i64 0]) ∧ Below w.heap.size w w' := by
  have h := read_as p.lay w (Pv.lay_length hr)
  rw [(rd_yes sum_lay (form_lay hr)).1, (rd_yes sum_lay (form_lay hr)).2, pg_lay hr ho] at h
  exact h

set_option maxHeartbeats 4000000 in
theorem back_big (p : Pv) (a y : Nat) (w : World) (ho : p.Ok) (hd : p.d.length ≤ maxLen) (ha : a < 256) (hy : y < 256) (hbig : 200 < p.d.length) :
    Calls Try.prog 3 #[.agg (pgV p), .int .u8 a, .int .u8 y] w fun e w' => e = .returned (.bool true) ∧ Below w.heap.size w w' := by
  have HO := Lib.hid ho
  have HD := Lib.hid hd
  have HI0 := Lib.hid ((Hv.start w).alloc (pgV p) 24)
  simp only [List.nil_append] at HI0
  obtain ⟨P, hP⟩ : ∃ P, pgV p = P := ⟨_, rfl⟩
  obtain ⟨X, hX⟩ : ∃ X : ByteArray, ⟨p.d.toArray⟩ = X := ⟨_, rfl⟩
  have HP := Lib.hid hP
  have HPS := Lib.hid (show P.size = 6 by rw [← hP]; rfl)
  have HP1 := Lib.hid (show P.all (·.oneCell') = true by rw [← hP]; exact pgV_one p)
  have HX5 := Lib.hid (show P[5]? = some (.string X) by rw [← hP, ← hX]; rfl)
  obtain ⟨N, hN⟩ : ∃ N, p.d.length = N := ⟨_, rfl⟩
  have hs : X.size = N := by rw [← hX, ← hN]; simp [ByteArray.size]
  have HN := Lib.hid hN
  have hz := zero_pg
  have hzp := zero_api
  rw [hP] at HI0 ⊢
  have hbig' : 200 < N := by rw [← hN]; exact hbig
  clear hbig
  clear ho hd hP hX hN
  go_enter Try.func3, Try.ntmps3
  go_wp2_with fail
  refine (awake_as _).mono ?_
  rintro e w1 ⟨rfl, hb⟩
  have HI1 := Lib.hid (HI0.out.next hb)
  clear hb
  have c5 : w1.cell? ⟨w.heap.size, 5, none⟩ = some (.string X) := by rw [cell_of_row _ _ _ _ _ _ (HI1.out.at (i := 0) rfl)]; exact HX5.out
  go_wp2_with fail
  refine (awake_as _).mono ?_
  rintro e w2 ⟨rfl, hb⟩
  have HI2 := Lib.hid (HI1.out.next hb)
  clear hb
  go_wp2_with fail
  go_ret
  exact ⟨rfl, HI2.out.below⟩

set_option maxHeartbeats 4000000 in
theorem back_not (p : Pv) (a y : Nat) (w : World) (ho : p.Ok) (hd : p.d.length ≤ maxLen) (ha : a < 256) (hy : y < 256) (hbig : ¬ 200 < p.d.length) (hr : ¬ p.right) :
    Calls Try.prog 3 #[.agg (pgV p), .int .u8 a, .int .u8 y] w fun e w' => e = .returned (.bool true) ∧ Below w.heap.size w w' := by
  have HO := Lib.hid ho
  have HD := Lib.hid hd
  have HI0 := Lib.hid ((Hv.start w).alloc (pgV p) 24)
  simp only [List.nil_append] at HI0
  obtain ⟨P, hP⟩ : ∃ P, pgV p = P := ⟨_, rfl⟩
  obtain ⟨X, hX⟩ : ∃ X : ByteArray, ⟨p.d.toArray⟩ = X := ⟨_, rfl⟩
  have HP := Lib.hid hP
  have HPS := Lib.hid (show P.size = 6 by rw [← hP]; rfl)
  have HP1 := Lib.hid (show P.all (·.oneCell') = true by rw [← hP]; exact pgV_one p)
  have HX5 := Lib.hid (show P[5]? = some (.string X) by rw [← hP, ← hX]; rfl)
  obtain ⟨N, hN⟩ : ∃ N, p.d.length = N := ⟨_, rfl⟩
  have hs : X.size = N := by rw [← hX, ← hN]; simp [ByteArray.size]
  have HN := Lib.hid hN
  have hz := zero_pg
  have hzp := zero_api
  rw [hP] at HI0 ⊢
  have hbig' : ¬ 200 < N := by rw [← hN]; exact hbig
  have HR := Lib.hid hr
  clear hbig hr
  clear ho hd hP hX hN
  go_enter Try.func3, Try.ntmps3
  go_wp2_with fail
  refine (awake_as _).mono ?_
  rintro e w1 ⟨rfl, hb⟩
  have HI1 := Lib.hid (HI0.out.next hb)
  clear hb
  have c5 : w1.cell? ⟨w.heap.size, 5, none⟩ = some (.string X) := by rw [cell_of_row _ _ _ _ _ _ (HI1.out.at (i := 0) rfl)]; exact HX5.out
  go_upto_region 3 with (first
    | (refine wpList_load_w rfl 24 _ rfl _ rfl (HI1.out.at (i := 0) rfl) Try.underlying24 rfl (info_rp HPS.out) ?_)
    | fail)
  go_wp2_with (first
    | (refine wpList_load_w rfl 24 _ rfl _ rfl (HI1.out.at (i := 0) rfl) Try.underlying24 rfl (info_rp HPS.out) ?_)
    | fail)
  rw [← HP.out]
  refine (of_any p _).mono ?_
  rintro e w2 ⟨rfl, hb⟩
  have HI2 := Lib.hid (HI1.out.next hb)
  clear hb
  go_wp2_with fail
  refine (lay_no p _ HD.out HR.out).mono ?_
  rintro e w3 ⟨rfl, hb⟩
  have HI3 := Lib.hid (HI2.out.next hb)
  clear hb
  rw [HP.out]
  obtain ⟨L, hL⟩ : ∃ L, bl (z64) = L := ⟨_, rfl⟩
  obtain ⟨Z, hZ⟩ : ∃ Z, bl z64 = Z := ⟨_, rfl⟩
  have HL := Lib.hid hL
  have HZ := Lib.hid hZ
  have HLS := Lib.hid (show L.size = 64 by rw [← hL, bl_size]; exact z64_len)
  have HZS := Lib.hid (show Z.size = 64 by rw [← hZ, bl_size, z64_len])
  have HL1 := Lib.hid (show L.all (·.oneCell') = true by rw [← hL]; exact bl_one _)
  rw [hL]
  rw [hZ] at hzp
  have hbz := built_api
  rw [hZ] at hbz
  clear hL hZ
  go_upto_region 4 with (first
    | (refine wpList_store_row rfl 27 _ _ rfl w3.heap.size L rfl rfl _ _ (heap_alloc_new _ _) (info_api HLS.out) (by first | rfl | rw [HZS.out, HLS.out]) HL1.out ?_)
    | fail)
  rw [World.setRow_alloc_new]
  have HI4 := Lib.hid (HI3.out.alloc L 27)
  have HGgb := Lib.hid (HI3.out.below.size)
  revert HI4 HGgb
  generalize World.alloc w3 _ = W4
  generalize w3.heap.size = gb
  intro HI4 HGgb
  simp only [List.nil_append, List.cons_append] at HI4
  have hE : ∀ w, (Op.equalIn 10000 27 (.agg L) (.agg Z)).run Try.prog w = .ok true w := fun w => by rw [← HL.out, ← HZ.out, bytes_is z64_len z64_len, decide_eq_true rfl]
  go_wp2_with (first
    | (refine wpList_load_w rfl 27 _ rfl _ rfl (HI4.out.at (i := 1) rfl) Try.underlying27 rfl (info_api HLS.out) ?_)
    | (refine wpList_load_w rfl 24 _ rfl _ rfl (HI4.out.at (i := 0) rfl) Try.underlying24 rfl (info_rp HPS.out) ?_)
    | (refine wpList_build_parts (by rfl) 27 [] rfl _ rfl hbz ?_)
    | fail)
  rw [← HP.out]
  refine (of_any p _).mono ?_
  rintro e w5 ⟨rfl, hb⟩
  have HI5 := Lib.hid (HI4.out.next hb)
  clear hb
  go_wp2_with fail
  refine ((by have h := right_any p w5 HD.out; rw [decide_eq_false HR.out] at h; exact h : Calls Try.prog 11 #[.agg (pgV p)] w5 fun e w' => e = .returned (.bool false) ∧ Below w5.heap.size w5 w')).mono ?_
  rintro e w6 ⟨rfl, hb⟩
  have HI6 := Lib.hid (HI5.out.next hb)
  clear hb
  go_wp2_with fail
  go_ret
  exact ⟨rfl, HI6.out.below⟩

set_option maxHeartbeats 4000000 in
theorem back_same (p : Pv) (a y : Nat) (w : World) (ho : p.Ok) (hd : p.d.length ≤ maxLen) (ha : a < 256) (hy : y < 256) (hbig : ¬ 200 < p.d.length) (hr : p.right) (hy0 : y = 0) :
    Calls Try.prog 3 #[.agg (pgV p), .int .u8 a, .int .u8 y] w fun e w' => e = .returned (.bool true) ∧ Below w.heap.size w w' := by
  have HO := Lib.hid ho
  have HD := Lib.hid hd
  have HI0 := Lib.hid ((Hv.start w).alloc (pgV p) 24)
  simp only [List.nil_append] at HI0
  obtain ⟨P, hP⟩ : ∃ P, pgV p = P := ⟨_, rfl⟩
  obtain ⟨X, hX⟩ : ∃ X : ByteArray, ⟨p.d.toArray⟩ = X := ⟨_, rfl⟩
  have HP := Lib.hid hP
  have HPS := Lib.hid (show P.size = 6 by rw [← hP]; rfl)
  have HP1 := Lib.hid (show P.all (·.oneCell') = true by rw [← hP]; exact pgV_one p)
  have HX5 := Lib.hid (show P[5]? = some (.string X) by rw [← hP, ← hX]; rfl)
  obtain ⟨N, hN⟩ : ∃ N, p.d.length = N := ⟨_, rfl⟩
  have hs : X.size = N := by rw [← hX, ← hN]; simp [ByteArray.size]
  have HN := Lib.hid hN
  have hz := zero_pg
  have hzp := zero_api
  rw [hP] at HI0 ⊢
  have hbig' : ¬ 200 < N := by rw [← hN]; exact hbig
  have HR := Lib.hid hr
  clear hbig hr
  have HY0 := Lib.hid hy0
  have HY1 := Lib.hid (show ((y : Int) == 0) = true by rw [hy0]; rfl)
  have HY2 := Lib.hid (show ((y : Int) != 0) = false by rw [hy0]; rfl)
  clear hy0
  clear ho hd hP hX hN
  go_enter Try.func3, Try.ntmps3
  go_wp2_with fail
  refine (awake_as _).mono ?_
  rintro e w1 ⟨rfl, hb⟩
  have HI1 := Lib.hid (HI0.out.next hb)
  clear hb
  have c5 : w1.cell? ⟨w.heap.size, 5, none⟩ = some (.string X) := by rw [cell_of_row _ _ _ _ _ _ (HI1.out.at (i := 0) rfl)]; exact HX5.out
  go_upto_region 3 with (first
    | (refine wpList_load_w rfl 24 _ rfl _ rfl (HI1.out.at (i := 0) rfl) Try.underlying24 rfl (info_rp HPS.out) ?_)
    | fail)
  go_wp2_with (first
    | (refine wpList_load_w rfl 24 _ rfl _ rfl (HI1.out.at (i := 0) rfl) Try.underlying24 rfl (info_rp HPS.out) ?_)
    | fail)
  rw [← HP.out]
  refine (of_any p _).mono ?_
  rintro e w2 ⟨rfl, hb⟩
  have HI2 := Lib.hid (HI1.out.next hb)
  clear hb
  go_wp2_with fail
  refine (lay_yes p _ HD.out HO.out HR.out).mono ?_
  rintro e w3 ⟨rfl, hb⟩
  have HI3 := Lib.hid (HI2.out.next hb)
  clear hb
  rw [HP.out]
  obtain ⟨L, hL⟩ : ∃ L, bl (p.lay) = L := ⟨_, rfl⟩
  obtain ⟨Z, hZ⟩ : ∃ Z, bl z64 = Z := ⟨_, rfl⟩
  have HL := Lib.hid hL
  have HZ := Lib.hid hZ
  have HLS := Lib.hid (show L.size = 64 by rw [← hL, bl_size]; exact Pv.lay_length HR.out)
  have HZS := Lib.hid (show Z.size = 64 by rw [← hZ, bl_size, z64_len])
  have HL1 := Lib.hid (show L.all (·.oneCell') = true by rw [← hL]; exact bl_one _)
  rw [hL]
  rw [hZ] at hzp
  have hbz := built_api
  rw [hZ] at hbz
  clear hL hZ
  go_upto_region 4 with (first
    | (refine wpList_store_row rfl 27 _ _ rfl w3.heap.size L rfl rfl _ _ (heap_alloc_new _ _) (info_api HLS.out) (by first | rfl | rw [HZS.out, HLS.out]) HL1.out ?_)
    | fail)
  rw [World.setRow_alloc_new]
  have HI4 := Lib.hid (HI3.out.alloc L 27)
  have HGgb := Lib.hid (HI3.out.below.size)
  revert HI4 HGgb
  generalize World.alloc w3 _ = W4
  generalize w3.heap.size = gb
  intro HI4 HGgb
  simp only [List.nil_append, List.cons_append] at HI4
  go_wp2_with (first
    | (refine wpList_load_w rfl 27 _ rfl _ rfl (HI4.out.at (i := 1) rfl) Try.underlying27 rfl (info_api HLS.out) ?_)
    | fail)
  rw [← HL.out]
  refine (read_lay p _ HO.out HR.out).mono ?_
  rintro e w5 ⟨rfl, hb⟩
  have HI5 := Lib.hid (HI4.out.next hb)
  clear hb
  rw [HL.out, HP.out]
  obtain ⟨T, hT⟩ : ∃ T, pgV Pv.zero = T := ⟨_, rfl⟩
  have HT := Lib.hid hT
  have HTS := Lib.hid (show T.size = 6 by rw [← hT]; rfl)
  have HT1 := Lib.hid (show T.all (·.oneCell') = true by rw [← hT]; exact pgV_one _)
  rw [hT] at hz
  have hbt := built_z
  rw [hT] at hbt
  clear hT
  go_upto_region 7 with (first
    | (refine wpList_store_row rfl 31 _ _ rfl w5.heap.size P rfl rfl _ _ (heap_alloc_new _ _) (info_pg HPS.out) (by rw [HPS.out, HTS.out]) HP1.out ?_)
    | fail)
  rw [World.setRow_alloc_new]
  have HI6 := Lib.hid (HI5.out.alloc P 31)
  have HGgq := Lib.hid (HI5.out.below.size)
  revert HI6 HGgq
  generalize World.alloc w5 _ = W6
  generalize w5.heap.size = gq
  intro HI6 HGgq
  simp only [List.nil_append, List.cons_append] at HI6
  obtain ⟨k, hk⟩ : ∃ k, a % 64 = k := ⟨_, rfl⟩
  have hk64 : k < 64 := by omega
  have hak : (a : Int) % 64 = (k : Int) := by omega
  obtain ⟨x, hx⟩ : ∃ x, B p.lay k = x := ⟨_, rfl⟩
  have hx256 : x < 256 := by rw [← hx]; exact B_lt _ _
  have ck : W6.cell? ⟨gb, k, none⟩ = some (.int .u8 x) := by rw [cell_of_row _ _ _ _ _ _ (HI6.out.at (i := 1) rfl), ← HL.out, bl_at _ k (by rw [Pv.lay_length HR.out]; exact hk64), hx]
  have fk : W6.frozen? ⟨gb, k, none⟩ = false := (HI6.out.at (i := 1) rfl).frozen k
  have hxy := u8_xor_nat x y hx256 hy
  go_upto_region 8 with (first
    | fail)
  have hcl : x ^^^ y < 256 := Nat.xor_lt_two_pow (n := 8) hx256 hy
  obtain ⟨c, hc⟩ : ∃ c : UInt8, UInt8.ofNat (x ^^^ y) = c := ⟨_, rfl⟩
  have hcn : c.toNat = x ^^^ y := by rw [← hc]; exact ofNat_toNat _ hcl
  have hi7 := HI6.out.cell (i := 1) rfl k (.int .u8 (c.toNat : Int))
  rw [hcn, ← HL.out, ← hcn, bl_set, hcn] at hi7
  have HI7 := Lib.hid hi7
  have HK := Lib.hid hk64
  have HX := Lib.hid hx
  have HC := Lib.hid hcn
  clear ck fk hxy hak hi7 hc hcn
  revert HI7
  generalize World.setCell _ _ _ = W7
  intro HI7
  obtain ⟨M, hM⟩ : ∃ M, p.lay.set k c = M := ⟨_, rfl⟩
  have HML := Lib.hid (show M.length = 64 by rw [← hM, List.length_set]; exact Pv.lay_length HR.out)
  rw [hM] at HI7
  have HM := Lib.hid hM
  clear hM
  simp only [List.set_cons_succ, List.set_cons_zero] at HI7
  have HBM := Lib.hid (show (bl M).size = 64 by rw [bl_size, HML.out])
  have hML : M = p.lay := by
    rw [← HM.out]
    apply List.ext_getElem?
    intro j
    rw [List.getElem?_set]
    split
    · rename_i e; subst e
      have hkl : k < p.lay.length := by rw [Pv.lay_length HR.out]; exact HK.out
      rw [if_pos hkl, List.getElem?_eq_getElem hkl]
      congr 1
      apply UInt8.toNat_inj.1
      rw [HC.out, HY0.out, Nat.xor_zero, ← HX.out]
      unfold B
      rw [gd_get _ _ hkl]
    · rfl
  have hrd : ∀ w, Calls Try.prog 12 #[.agg (bl M)] w fun e w' => e = .returned (.tuple #[.agg (pgV p), .int .i64 0]) ∧ Below w.heap.size w w' := fun w => by rw [hML]; exact read_lay p w HO.out HR.out
  clear hML
  obtain ⟨Q, hQ⟩ : ∃ Q, pgV p = Q := ⟨_, rfl⟩
  have HQ := Lib.hid hQ
  have HQS := Lib.hid (show Q.size = 6 by rw [← hQ]; rfl)
  have HQ1 := Lib.hid (show Q.all (·.oneCell') = true by rw [← hQ]; exact pgV_one _)
  rw [hQ] at hrd
  have HRD := Lib.hid hrd
  clear hQ hrd
  go_wp2_with (first
    | (refine wpList_load_w rfl 27 _ rfl _ rfl (HI7.out.at (i := 1) rfl) Try.underlying27 rfl (info_api HBM.out) ?_)
    | fail)
  refine (HRD.out _).mono ?_
  rintro e w8 ⟨rfl, hb⟩
  have HI8 := Lib.hid (HI7.out.next hb)
  clear hb
  go_upto_region 9 with (first
    | (refine wpList_store_row rfl 31 _ _ rfl w8.heap.size Q rfl rfl _ _ (heap_alloc_new _ _) (info_pg HQS.out) (by rw [HQS.out, HTS.out]) HQ1.out ?_)
    | fail)
  rw [World.setRow_alloc_new]
  have HI9 := Lib.hid (HI8.out.alloc Q 31)
  have HGgr := Lib.hid (HI8.out.below.size)
  revert HI9 HGgr
  generalize World.alloc w8 _ = W9
  generalize w8.heap.size = gr
  intro HI9 HGgr
  simp only [List.nil_append, List.cons_append] at HI9
  have HPL := Lib.hid (fun w => plain_any p w)
  rw [HP.out] at HPL
  refine mf_start (Hv w [(w.heap.size, P, 24), (gb, bl M, 27), (gq, P, 31), (gr, Q, 31)]) (fun _ => false) HI9.out.drew fun hS => ?_
  refine mf_yield (i := 0) (d := 60) (.int .i64 0) rfl rfl (by kernel_rfl) (by kernel_rfl) (by kernel_rfl) (by kernel_rfl) hS (y_run (by rfl) fun _ => by rfl) ?_
  simp only [Act.put, List.setIfInBounds_toArray, List.set_cons_zero, List.set_cons_succ]
  refine mf_yield (i := 1) (d := 61) (.bool true) rfl rfl (by kernel_rfl) (by kernel_rfl) (by kernel_rfl) (by kernel_rfl) hS (y_eqlK (by rfl) rfl Try.underlying28 rfl rfl (by decide)) ?_
  simp only [Act.put, List.setIfInBounds_toArray, List.set_cons_zero, List.set_cons_succ]
  refine mf_yield (i := 2) (d := 62) (.bool true) rfl rfl (by kernel_rfl) (by kernel_rfl) (by kernel_rfl) (by kernel_rfl) hS (y_run (by rfl) fun _ => by rfl) ?_
  simp only [Act.put, List.setIfInBounds_toArray, List.set_cons_zero, List.set_cons_succ]
  refine mf_yield (i := 3) (d := 63) (.agg P) rfl rfl (by kernel_rfl) (by kernel_rfl) (by kernel_rfl) (by kernel_rfl) hS (y_load_w (by rfl) rfl rfl (fun w' h => h.at (i := 2) rfl) Try.underlying31 rfl (info_pg HPS.out)) ?_
  simp only [Act.put, List.setIfInBounds_toArray, List.set_cons_zero, List.set_cons_succ]
  refine mf_yield (i := 5) (d := 65) (.agg P) rfl rfl (by kernel_rfl) (by kernel_rfl) (by kernel_rfl) (by kernel_rfl) hS (y_load_w (by rfl) rfl rfl (fun w' h => h.at (i := 0) rfl) Try.underlying24 rfl (info_rp HPS.out)) ?_
  simp only [Act.put, List.setIfInBounds_toArray, List.set_cons_zero, List.set_cons_succ]
  refine mf_ready [4] (by kernel_rfl) (by simp) (af_call (i := 4) (d := 64) (R := fun v w' => v = .agg P ∧ Hv w [(w.heap.size, P, 24), (gb, bl M, 27), (gq, P, 31), (gr, Q, 31)] w') #[.agg P] rfl rfl (by rfl) rfl enter_plain (by kernel_rfl) ((HPL.out _).mono fun e w' h => ⟨_, h.1, rfl, hS.next h.2⟩) (fun v w' h => h.2) ?_ AllReadyF.nil)
  rintro v w10 ⟨rfl, h10⟩ hS10
  clear hS h10
  have hS := hS10
  clear hS10
  simp only [Act.put, List.setIfInBounds_toArray, List.set_cons_zero, List.set_cons_succ]
  refine mf_yield (i := 6) (d := 66) (.bool true) rfl rfl (by kernel_rfl) (by kernel_rfl) (by kernel_rfl) (by kernel_rfl) hS (y_eql (by rfl) rfl rfl rfl (by kernel_rfl) (fun w => by rw [← HP.out, rpages_is, pEq_self])) ?_
  simp only [Act.put, List.setIfInBounds_toArray, List.set_cons_zero, List.set_cons_succ]
  refine mf_yield (i := 7) (d := 67) (.bool true) rfl rfl (by kernel_rfl) (by kernel_rfl) (by kernel_rfl) (by kernel_rfl) hS (y_run (by rfl) fun _ => by rfl) ?_
  simp only [Act.put, List.setIfInBounds_toArray, List.set_cons_zero, List.set_cons_succ]
  refine mf_yield (i := 8) (d := 68) (.bool true) rfl rfl (by kernel_rfl) (by kernel_rfl) (by kernel_rfl) (by kernel_rfl) hS (y_run (by rfl) fun _ => by rfl) ?_
  simp only [Act.put, List.setIfInBounds_toArray, List.set_cons_zero, List.set_cons_succ]
  refine mf_yield (i := 9) (d := 69) (.int .u8 ((y : Nat))) rfl rfl (by kernel_rfl) (by kernel_rfl) (by kernel_rfl) (by kernel_rfl) hS (y_run (by rfl) fun _ => by rfl) ?_
  simp only [Act.put, List.setIfInBounds_toArray, List.set_cons_zero, List.set_cons_succ]
  refine mf_yield (i := 10) (d := 70) (.bool true) rfl rfl (by kernel_rfl) (by kernel_rfl) (by kernel_rfl) (by kernel_rfl) hS (y_eqlK (by rfl) rfl Try.underlying5 rfl rfl HY1.out) ?_
  simp only [Act.put, List.setIfInBounds_toArray, List.set_cons_zero, List.set_cons_succ]
  refine mf_yield (i := 11) (d := 71) (.bool true) rfl rfl (by kernel_rfl) (by kernel_rfl) (by kernel_rfl) (by kernel_rfl) hS (y_run (by rfl) fun _ => by rfl) ?_
  simp only [Act.put, List.setIfInBounds_toArray, List.set_cons_zero, List.set_cons_succ]
  refine mf_yield (i := 12) (d := 72) (.int .i64 0) rfl rfl (by kernel_rfl) (by kernel_rfl) (by kernel_rfl) (by kernel_rfl) hS (y_run (by rfl) fun _ => by rfl) ?_
  simp only [Act.put, List.setIfInBounds_toArray, List.set_cons_zero, List.set_cons_succ]
  refine mf_yield (i := 13) (d := 73) (.bool true) rfl rfl (by kernel_rfl) (by kernel_rfl) (by kernel_rfl) (by kernel_rfl) hS (y_eqlK (by rfl) rfl Try.underlying28 rfl rfl (by decide)) ?_
  simp only [Act.put, List.setIfInBounds_toArray, List.set_cons_zero, List.set_cons_succ]
  refine mf_yield (i := 14) (d := 74) (.bool true) rfl rfl (by kernel_rfl) (by kernel_rfl) (by kernel_rfl) (by kernel_rfl) hS (y_run (by rfl) fun _ => by rfl) ?_
  simp only [Act.put, List.setIfInBounds_toArray, List.set_cons_zero, List.set_cons_succ]
  refine mf_yield (i := 15) (d := 75) (.bool true) rfl rfl (by kernel_rfl) (by kernel_rfl) (by kernel_rfl) (by kernel_rfl) hS (y_run (by rfl) fun _ => by rfl) ?_
  simp only [Act.put, List.setIfInBounds_toArray, List.set_cons_zero, List.set_cons_succ]
  refine mf_yield (i := 16) (d := 76) undef rfl rfl (by kernel_rfl) (by kernel_rfl) (by kernel_rfl) (by kernel_rfl) hS (y_skip (by rfl)) ?_
  simp only [Act.put, List.setIfInBounds_toArray, List.set_cons_zero, List.set_cons_succ]
  refine mf_yield (i := 17) (d := 77) undef rfl rfl (by kernel_rfl) (by kernel_rfl) (by kernel_rfl) (by kernel_rfl) hS (y_skip (by rfl)) ?_
  simp only [Act.put, List.setIfInBounds_toArray, List.set_cons_zero, List.set_cons_succ]
  refine mf_yield (i := 18) (d := 78) undef rfl rfl (by kernel_rfl) (by kernel_rfl) (by kernel_rfl) (by kernel_rfl) hS (y_skip (by rfl)) ?_
  simp only [Act.put, List.setIfInBounds_toArray, List.set_cons_zero, List.set_cons_succ]
  refine mf_yield (i := 19) (d := 79) undef rfl rfl (by kernel_rfl) (by kernel_rfl) (by kernel_rfl) (by kernel_rfl) hS (y_skip (by rfl)) ?_
  simp only [Act.put, List.setIfInBounds_toArray, List.set_cons_zero, List.set_cons_succ]
  refine mf_yield (i := 20) (d := 80) undef rfl rfl (by kernel_rfl) (by kernel_rfl) (by kernel_rfl) (by kernel_rfl) hS (y_skip (by rfl)) ?_
  simp only [Act.put, List.setIfInBounds_toArray, List.set_cons_zero, List.set_cons_succ]
  refine mf_yield (i := 21) (d := 81) undef rfl rfl (by kernel_rfl) (by kernel_rfl) (by kernel_rfl) (by kernel_rfl) hS (y_skip (by rfl)) ?_
  simp only [Act.put, List.setIfInBounds_toArray, List.set_cons_zero, List.set_cons_succ]
  refine mf_yield (i := 22) (d := 82) undef rfl rfl (by kernel_rfl) (by kernel_rfl) (by kernel_rfl) (by kernel_rfl) hS (y_skip (by rfl)) ?_
  simp only [Act.put, List.setIfInBounds_toArray, List.set_cons_zero, List.set_cons_succ]
  refine mf_yield (i := 23) (d := 83) undef rfl rfl (by kernel_rfl) (by kernel_rfl) (by kernel_rfl) (by kernel_rfl) hS (y_skip (by rfl)) ?_
  simp only [Act.put, List.setIfInBounds_toArray, List.set_cons_zero, List.set_cons_succ]
  refine mf_yield (i := 24) (d := 84) undef rfl rfl (by kernel_rfl) (by kernel_rfl) (by kernel_rfl) (by kernel_rfl) hS (y_skip (by rfl)) ?_
  simp only [Act.put, List.setIfInBounds_toArray, List.set_cons_zero, List.set_cons_succ]
  refine mf_yield (i := 25) (d := 85) undef rfl rfl (by kernel_rfl) (by kernel_rfl) (by kernel_rfl) (by kernel_rfl) hS (y_skip (by rfl)) ?_
  simp only [Act.put, List.setIfInBounds_toArray, List.set_cons_zero, List.set_cons_succ]
  refine mf_yield (i := 26) (d := 86) undef rfl rfl (by kernel_rfl) (by kernel_rfl) (by kernel_rfl) (by kernel_rfl) hS (y_skip (by rfl)) ?_
  simp only [Act.put, List.setIfInBounds_toArray, List.set_cons_zero, List.set_cons_succ]
  refine mf_yield (i := 27) (d := 87) (.bool true) rfl rfl (by kernel_rfl) (by kernel_rfl) (by kernel_rfl) (by kernel_rfl) hS (y_run (by rfl) fun _ => by rfl) ?_
  simp only [Act.put, List.setIfInBounds_toArray, List.set_cons_zero, List.set_cons_succ]
  refine mf_yield (i := 28) (d := 88) (.bool true) rfl rfl (by kernel_rfl) (by kernel_rfl) (by kernel_rfl) (by kernel_rfl) hS (y_run (by rfl) fun _ => by rfl) ?_
  simp only [Act.put, List.setIfInBounds_toArray, List.set_cons_zero, List.set_cons_succ]
  refine mf_yield (i := 29) (d := 6) (.bool true) rfl rfl (by kernel_rfl) (by kernel_rfl) (by kernel_rfl) (by kernel_rfl) hS (y_run (by rfl) fun _ => by rfl) ?_
  simp only [Act.put, List.setIfInBounds_toArray, List.set_cons_zero, List.set_cons_succ]
  refine mf_done (by kernel_rfl) ?_
  have HB := Lib.hid hS.below
  clear hS
  go_wp2_with fail
  go_ret
  exact ⟨rfl, HB.out⟩

set_option maxHeartbeats 4000000 in
theorem back_turn (p : Pv) (a y : Nat) (w : World) (ho : p.Ok) (hd : p.d.length ≤ maxLen) (ha : a < 256) (hy : y < 256) (hbig : ¬ 200 < p.d.length) (hr : p.right) (hy0 : y ≠ 0) :
    Calls Try.prog 3 #[.agg (pgV p), .int .u8 a, .int .u8 y] w fun e w' => e = .returned (.bool true) ∧ Below w.heap.size w w' := by
  have HO := Lib.hid ho
  have HD := Lib.hid hd
  have HI0 := Lib.hid ((Hv.start w).alloc (pgV p) 24)
  simp only [List.nil_append] at HI0
  obtain ⟨P, hP⟩ : ∃ P, pgV p = P := ⟨_, rfl⟩
  obtain ⟨X, hX⟩ : ∃ X : ByteArray, ⟨p.d.toArray⟩ = X := ⟨_, rfl⟩
  have HP := Lib.hid hP
  have HPS := Lib.hid (show P.size = 6 by rw [← hP]; rfl)
  have HP1 := Lib.hid (show P.all (·.oneCell') = true by rw [← hP]; exact pgV_one p)
  have HX5 := Lib.hid (show P[5]? = some (.string X) by rw [← hP, ← hX]; rfl)
  obtain ⟨N, hN⟩ : ∃ N, p.d.length = N := ⟨_, rfl⟩
  have hs : X.size = N := by rw [← hX, ← hN]; simp [ByteArray.size]
  have HN := Lib.hid hN
  have hz := zero_pg
  have hzp := zero_api
  rw [hP] at HI0 ⊢
  have hbig' : ¬ 200 < N := by rw [← hN]; exact hbig
  have HR := Lib.hid hr
  clear hbig hr
  have HY0 := Lib.hid hy0
  have HY1 := Lib.hid (show ((y : Int) == 0) = false by rw [beq_eq_false_iff_ne]; omega)
  have HY2 := Lib.hid (show ((y : Int) != 0) = true by rw [bne_iff_ne]; omega)
  clear hy0
  clear ho hd hP hX hN
  go_enter Try.func3, Try.ntmps3
  go_wp2_with fail
  refine (awake_as _).mono ?_
  rintro e w1 ⟨rfl, hb⟩
  have HI1 := Lib.hid (HI0.out.next hb)
  clear hb
  have c5 : w1.cell? ⟨w.heap.size, 5, none⟩ = some (.string X) := by rw [cell_of_row _ _ _ _ _ _ (HI1.out.at (i := 0) rfl)]; exact HX5.out
  go_upto_region 3 with (first
    | (refine wpList_load_w rfl 24 _ rfl _ rfl (HI1.out.at (i := 0) rfl) Try.underlying24 rfl (info_rp HPS.out) ?_)
    | fail)
  go_wp2_with (first
    | (refine wpList_load_w rfl 24 _ rfl _ rfl (HI1.out.at (i := 0) rfl) Try.underlying24 rfl (info_rp HPS.out) ?_)
    | fail)
  rw [← HP.out]
  refine (of_any p _).mono ?_
  rintro e w2 ⟨rfl, hb⟩
  have HI2 := Lib.hid (HI1.out.next hb)
  clear hb
  go_wp2_with fail
  refine (lay_yes p _ HD.out HO.out HR.out).mono ?_
  rintro e w3 ⟨rfl, hb⟩
  have HI3 := Lib.hid (HI2.out.next hb)
  clear hb
  rw [HP.out]
  obtain ⟨L, hL⟩ : ∃ L, bl (p.lay) = L := ⟨_, rfl⟩
  obtain ⟨Z, hZ⟩ : ∃ Z, bl z64 = Z := ⟨_, rfl⟩
  have HL := Lib.hid hL
  have HZ := Lib.hid hZ
  have HLS := Lib.hid (show L.size = 64 by rw [← hL, bl_size]; exact Pv.lay_length HR.out)
  have HZS := Lib.hid (show Z.size = 64 by rw [← hZ, bl_size, z64_len])
  have HL1 := Lib.hid (show L.all (·.oneCell') = true by rw [← hL]; exact bl_one _)
  rw [hL]
  rw [hZ] at hzp
  have hbz := built_api
  rw [hZ] at hbz
  clear hL hZ
  go_upto_region 4 with (first
    | (refine wpList_store_row rfl 27 _ _ rfl w3.heap.size L rfl rfl _ _ (heap_alloc_new _ _) (info_api HLS.out) (by first | rfl | rw [HZS.out, HLS.out]) HL1.out ?_)
    | fail)
  rw [World.setRow_alloc_new]
  have HI4 := Lib.hid (HI3.out.alloc L 27)
  have HGgb := Lib.hid (HI3.out.below.size)
  revert HI4 HGgb
  generalize World.alloc w3 _ = W4
  generalize w3.heap.size = gb
  intro HI4 HGgb
  simp only [List.nil_append, List.cons_append] at HI4
  go_wp2_with (first
    | (refine wpList_load_w rfl 27 _ rfl _ rfl (HI4.out.at (i := 1) rfl) Try.underlying27 rfl (info_api HLS.out) ?_)
    | fail)
  rw [← HL.out]
  refine (read_lay p _ HO.out HR.out).mono ?_
  rintro e w5 ⟨rfl, hb⟩
  have HI5 := Lib.hid (HI4.out.next hb)
  clear hb
  rw [HL.out, HP.out]
  obtain ⟨T, hT⟩ : ∃ T, pgV Pv.zero = T := ⟨_, rfl⟩
  have HT := Lib.hid hT
  have HTS := Lib.hid (show T.size = 6 by rw [← hT]; rfl)
  have HT1 := Lib.hid (show T.all (·.oneCell') = true by rw [← hT]; exact pgV_one _)
  rw [hT] at hz
  have hbt := built_z
  rw [hT] at hbt
  clear hT
  go_upto_region 7 with (first
    | (refine wpList_store_row rfl 31 _ _ rfl w5.heap.size P rfl rfl _ _ (heap_alloc_new _ _) (info_pg HPS.out) (by rw [HPS.out, HTS.out]) HP1.out ?_)
    | fail)
  rw [World.setRow_alloc_new]
  have HI6 := Lib.hid (HI5.out.alloc P 31)
  have HGgq := Lib.hid (HI5.out.below.size)
  revert HI6 HGgq
  generalize World.alloc w5 _ = W6
  generalize w5.heap.size = gq
  intro HI6 HGgq
  simp only [List.nil_append, List.cons_append] at HI6
  obtain ⟨k, hk⟩ : ∃ k, a % 64 = k := ⟨_, rfl⟩
  have hk64 : k < 64 := by omega
  have hak : (a : Int) % 64 = (k : Int) := by omega
  obtain ⟨x, hx⟩ : ∃ x, B p.lay k = x := ⟨_, rfl⟩
  have hx256 : x < 256 := by rw [← hx]; exact B_lt _ _
  have ck : W6.cell? ⟨gb, k, none⟩ = some (.int .u8 x) := by rw [cell_of_row _ _ _ _ _ _ (HI6.out.at (i := 1) rfl), ← HL.out, bl_at _ k (by rw [Pv.lay_length HR.out]; exact hk64), hx]
  have fk : W6.frozen? ⟨gb, k, none⟩ = false := (HI6.out.at (i := 1) rfl).frozen k
  have hxy := u8_xor_nat x y hx256 hy
  go_upto_region 8 with (first
    | fail)
  have hcl : x ^^^ y < 256 := Nat.xor_lt_two_pow (n := 8) hx256 hy
  obtain ⟨c, hc⟩ : ∃ c : UInt8, UInt8.ofNat (x ^^^ y) = c := ⟨_, rfl⟩
  have hcn : c.toNat = x ^^^ y := by rw [← hc]; exact ofNat_toNat _ hcl
  have hi7 := HI6.out.cell (i := 1) rfl k (.int .u8 (c.toNat : Int))
  rw [hcn, ← HL.out, ← hcn, bl_set, hcn] at hi7
  have HI7 := Lib.hid hi7
  have HK := Lib.hid hk64
  have HX := Lib.hid hx
  have HC := Lib.hid hcn
  clear ck fk hxy hak hi7 hc hcn
  revert HI7
  generalize World.setCell _ _ _ = W7
  intro HI7
  obtain ⟨M, hM⟩ : ∃ M, p.lay.set k c = M := ⟨_, rfl⟩
  have HML := Lib.hid (show M.length = 64 by rw [← hM, List.length_set]; exact Pv.lay_length HR.out)
  rw [hM] at HI7
  have HM := Lib.hid hM
  clear hM
  simp only [List.set_cons_succ, List.set_cons_zero] at HI7
  have HBM := Lib.hid (show (bl M).size = 64 by rw [bl_size, HML.out])
  have hrd : ∀ w, Calls Try.prog 12 #[.agg (bl M)] w fun e w' => e = .returned (.tuple #[.agg (pgV Pv.zero), .int .i64 3]) ∧ Below w.heap.size w w' := fun w => by
    have hkl : k < p.lay.length := by rw [Pv.lay_length HR.out]; exact HK.out
    have hns : ¬ SumOk M := by
      rw [← HM.out]
      refine sum_turn (Pv.lay_length HR.out) sum_lay k HK.out c ?_
      intro e
      have e1 : c.toNat = x := by
        rw [e, ← HX.out]
        unfold B
        rw [gd_get _ _ hkl]
      rw [HC.out] at e1
      exact HY0.out (xor_id e1)
    have h := read_as M w HML.out
    rw [(rd_sum hns).1, (rd_sum hns).2] at h
    exact h
  obtain ⟨Q, hQ⟩ : ∃ Q, pgV Pv.zero = Q := ⟨_, rfl⟩
  have HQ := Lib.hid hQ
  have HQS := Lib.hid (show Q.size = 6 by rw [← hQ]; rfl)
  have HQ1 := Lib.hid (show Q.all (·.oneCell') = true by rw [← hQ]; exact pgV_one _)
  rw [hQ] at hrd
  have HRD := Lib.hid hrd
  clear hQ hrd
  go_wp2_with (first
    | (refine wpList_load_w rfl 27 _ rfl _ rfl (HI7.out.at (i := 1) rfl) Try.underlying27 rfl (info_api HBM.out) ?_)
    | fail)
  refine (HRD.out _).mono ?_
  rintro e w8 ⟨rfl, hb⟩
  have HI8 := Lib.hid (HI7.out.next hb)
  clear hb
  go_upto_region 9 with (first
    | (refine wpList_store_row rfl 31 _ _ rfl w8.heap.size Q rfl rfl _ _ (heap_alloc_new _ _) (info_pg HQS.out) (by rw [HQS.out, HTS.out]) HQ1.out ?_)
    | fail)
  rw [World.setRow_alloc_new]
  have HI9 := Lib.hid (HI8.out.alloc Q 31)
  have HGgr := Lib.hid (HI8.out.below.size)
  revert HI9 HGgr
  generalize World.alloc w8 _ = W9
  generalize w8.heap.size = gr
  intro HI9 HGgr
  simp only [List.nil_append, List.cons_append] at HI9
  have HPL := Lib.hid (fun w => plain_any p w)
  rw [HP.out] at HPL
  refine mf_start (Hv w [(w.heap.size, P, 24), (gb, bl M, 27), (gq, P, 31), (gr, Q, 31)]) (fun _ => false) HI9.out.drew fun hS => ?_
  refine mf_yield (i := 0) (d := 60) (.int .i64 0) rfl rfl (by kernel_rfl) (by kernel_rfl) (by kernel_rfl) (by kernel_rfl) hS (y_run (by rfl) fun _ => by rfl) ?_
  simp only [Act.put, List.setIfInBounds_toArray, List.set_cons_zero, List.set_cons_succ]
  refine mf_yield (i := 1) (d := 61) (.bool true) rfl rfl (by kernel_rfl) (by kernel_rfl) (by kernel_rfl) (by kernel_rfl) hS (y_eqlK (by rfl) rfl Try.underlying28 rfl rfl (by decide)) ?_
  simp only [Act.put, List.setIfInBounds_toArray, List.set_cons_zero, List.set_cons_succ]
  refine mf_yield (i := 2) (d := 62) (.bool true) rfl rfl (by kernel_rfl) (by kernel_rfl) (by kernel_rfl) (by kernel_rfl) hS (y_run (by rfl) fun _ => by rfl) ?_
  simp only [Act.put, List.setIfInBounds_toArray, List.set_cons_zero, List.set_cons_succ]
  refine mf_yield (i := 3) (d := 63) (.agg P) rfl rfl (by kernel_rfl) (by kernel_rfl) (by kernel_rfl) (by kernel_rfl) hS (y_load_w (by rfl) rfl rfl (fun w' h => h.at (i := 2) rfl) Try.underlying31 rfl (info_pg HPS.out)) ?_
  simp only [Act.put, List.setIfInBounds_toArray, List.set_cons_zero, List.set_cons_succ]
  refine mf_yield (i := 5) (d := 65) (.agg P) rfl rfl (by kernel_rfl) (by kernel_rfl) (by kernel_rfl) (by kernel_rfl) hS (y_load_w (by rfl) rfl rfl (fun w' h => h.at (i := 0) rfl) Try.underlying24 rfl (info_rp HPS.out)) ?_
  simp only [Act.put, List.setIfInBounds_toArray, List.set_cons_zero, List.set_cons_succ]
  refine mf_ready [4] (by kernel_rfl) (by simp) (af_call (i := 4) (d := 64) (R := fun v w' => v = .agg P ∧ Hv w [(w.heap.size, P, 24), (gb, bl M, 27), (gq, P, 31), (gr, Q, 31)] w') #[.agg P] rfl rfl (by rfl) rfl enter_plain (by kernel_rfl) ((HPL.out _).mono fun e w' h => ⟨_, h.1, rfl, hS.next h.2⟩) (fun v w' h => h.2) ?_ AllReadyF.nil)
  rintro v w10 ⟨rfl, h10⟩ hS10
  clear hS h10
  have hS := hS10
  clear hS10
  simp only [Act.put, List.setIfInBounds_toArray, List.set_cons_zero, List.set_cons_succ]
  refine mf_yield (i := 6) (d := 66) (.bool true) rfl rfl (by kernel_rfl) (by kernel_rfl) (by kernel_rfl) (by kernel_rfl) hS (y_eql (by rfl) rfl rfl rfl (by kernel_rfl) (fun w => by rw [← HP.out, rpages_is, pEq_self])) ?_
  simp only [Act.put, List.setIfInBounds_toArray, List.set_cons_zero, List.set_cons_succ]
  refine mf_yield (i := 7) (d := 67) (.bool true) rfl rfl (by kernel_rfl) (by kernel_rfl) (by kernel_rfl) (by kernel_rfl) hS (y_run (by rfl) fun _ => by rfl) ?_
  simp only [Act.put, List.setIfInBounds_toArray, List.set_cons_zero, List.set_cons_succ]
  refine mf_yield (i := 8) (d := 68) (.bool true) rfl rfl (by kernel_rfl) (by kernel_rfl) (by kernel_rfl) (by kernel_rfl) hS (y_run (by rfl) fun _ => by rfl) ?_
  simp only [Act.put, List.setIfInBounds_toArray, List.set_cons_zero, List.set_cons_succ]
  refine mf_yield (i := 9) (d := 69) (.int .u8 ((y : Nat))) rfl rfl (by kernel_rfl) (by kernel_rfl) (by kernel_rfl) (by kernel_rfl) hS (y_run (by rfl) fun _ => by rfl) ?_
  simp only [Act.put, List.setIfInBounds_toArray, List.set_cons_zero, List.set_cons_succ]
  refine mf_yield (i := 10) (d := 70) (.bool false) rfl rfl (by kernel_rfl) (by kernel_rfl) (by kernel_rfl) (by kernel_rfl) hS (y_eqlK (by rfl) rfl Try.underlying5 rfl rfl HY1.out) ?_
  simp only [Act.put, List.setIfInBounds_toArray, List.set_cons_zero, List.set_cons_succ]
  refine mf_yield (i := 11) (d := 71) (.bool false) rfl rfl (by kernel_rfl) (by kernel_rfl) (by kernel_rfl) (by kernel_rfl) hS (y_run (by rfl) fun _ => by rfl) ?_
  simp only [Act.put, List.setIfInBounds_toArray, List.set_cons_zero, List.set_cons_succ]
  refine mf_yield (i := 12) (d := 72) undef rfl rfl (by kernel_rfl) (by kernel_rfl) (by kernel_rfl) (by kernel_rfl) hS (y_skip (by rfl)) ?_
  simp only [Act.put, List.setIfInBounds_toArray, List.set_cons_zero, List.set_cons_succ]
  refine mf_yield (i := 13) (d := 73) undef rfl rfl (by kernel_rfl) (by kernel_rfl) (by kernel_rfl) (by kernel_rfl) hS (y_skip (by rfl)) ?_
  simp only [Act.put, List.setIfInBounds_toArray, List.set_cons_zero, List.set_cons_succ]
  refine mf_yield (i := 14) (d := 74) (.bool false) rfl rfl (by kernel_rfl) (by kernel_rfl) (by kernel_rfl) (by kernel_rfl) hS (y_run (by rfl) fun _ => by rfl) ?_
  simp only [Act.put, List.setIfInBounds_toArray, List.set_cons_zero, List.set_cons_succ]
  refine mf_yield (i := 15) (d := 75) (.bool false) rfl rfl (by kernel_rfl) (by kernel_rfl) (by kernel_rfl) (by kernel_rfl) hS (y_run (by rfl) fun _ => by rfl) ?_
  simp only [Act.put, List.setIfInBounds_toArray, List.set_cons_zero, List.set_cons_succ]
  refine mf_yield (i := 16) (d := 76) (.int .u8 ((y : Nat))) rfl rfl (by kernel_rfl) (by kernel_rfl) (by kernel_rfl) (by kernel_rfl) hS (y_run (by rfl) fun _ => by rfl) ?_
  simp only [Act.put, List.setIfInBounds_toArray, List.set_cons_zero, List.set_cons_succ]
  refine mf_yield (i := 17) (d := 77) (.bool true) rfl rfl (by kernel_rfl) (by kernel_rfl) (by kernel_rfl) (by kernel_rfl) hS (y_neqK (by rfl) rfl Try.underlying5 rfl rfl HY2.out) ?_
  simp only [Act.put, List.setIfInBounds_toArray, List.set_cons_zero, List.set_cons_succ]
  refine mf_yield (i := 18) (d := 78) (.bool true) rfl rfl (by kernel_rfl) (by kernel_rfl) (by kernel_rfl) (by kernel_rfl) hS (y_run (by rfl) fun _ => by rfl) ?_
  simp only [Act.put, List.setIfInBounds_toArray, List.set_cons_zero, List.set_cons_succ]
  refine mf_yield (i := 19) (d := 79) (.int .i64 3) rfl rfl (by kernel_rfl) (by kernel_rfl) (by kernel_rfl) (by kernel_rfl) hS (y_run (by rfl) fun _ => by rfl) ?_
  simp only [Act.put, List.setIfInBounds_toArray, List.set_cons_zero, List.set_cons_succ]
  refine mf_yield (i := 20) (d := 80) (.bool true) rfl rfl (by kernel_rfl) (by kernel_rfl) (by kernel_rfl) (by kernel_rfl) hS (y_eqlK (by rfl) rfl Try.underlying28 rfl rfl (by decide)) ?_
  simp only [Act.put, List.setIfInBounds_toArray, List.set_cons_zero, List.set_cons_succ]
  refine mf_yield (i := 21) (d := 81) (.bool true) rfl rfl (by kernel_rfl) (by kernel_rfl) (by kernel_rfl) (by kernel_rfl) hS (y_run (by rfl) fun _ => by rfl) ?_
  simp only [Act.put, List.setIfInBounds_toArray, List.set_cons_zero, List.set_cons_succ]
  refine mf_yield (i := 22) (d := 82) (.bool true) rfl rfl (by kernel_rfl) (by kernel_rfl) (by kernel_rfl) (by kernel_rfl) hS (y_run (by rfl) fun _ => by rfl) ?_
  simp only [Act.put, List.setIfInBounds_toArray, List.set_cons_zero, List.set_cons_succ]
  refine mf_yield (i := 23) (d := 83) (.agg Q) rfl rfl (by kernel_rfl) (by kernel_rfl) (by kernel_rfl) (by kernel_rfl) hS (y_load_w (by rfl) rfl rfl (fun w' h => h.at (i := 3) rfl) Try.underlying31 rfl (info_pg HQS.out)) ?_
  simp only [Act.put, List.setIfInBounds_toArray, List.set_cons_zero, List.set_cons_succ]
  refine mf_yield (i := 24) (d := 84) (.agg T) rfl rfl (by kernel_rfl) (by kernel_rfl) (by kernel_rfl) (by kernel_rfl) hS (y_build_parts (L := []) (by rfl) rfl _ rfl hbt) ?_
  simp only [Act.put, List.setIfInBounds_toArray, List.set_cons_zero, List.set_cons_succ]
  refine mf_yield (i := 25) (d := 85) (.bool true) rfl rfl (by kernel_rfl) (by kernel_rfl) (by kernel_rfl) (by kernel_rfl) hS (y_eql (by rfl) rfl rfl rfl (by kernel_rfl) (fun w => by rw [← HQ.out, ← HT.out, pages_is, pEq_self])) ?_
  simp only [Act.put, List.setIfInBounds_toArray, List.set_cons_zero, List.set_cons_succ]
  refine mf_yield (i := 26) (d := 86) (.bool true) rfl rfl (by kernel_rfl) (by kernel_rfl) (by kernel_rfl) (by kernel_rfl) hS (y_run (by rfl) fun _ => by rfl) ?_
  simp only [Act.put, List.setIfInBounds_toArray, List.set_cons_zero, List.set_cons_succ]
  refine mf_yield (i := 27) (d := 87) (.bool true) rfl rfl (by kernel_rfl) (by kernel_rfl) (by kernel_rfl) (by kernel_rfl) hS (y_run (by rfl) fun _ => by rfl) ?_
  simp only [Act.put, List.setIfInBounds_toArray, List.set_cons_zero, List.set_cons_succ]
  refine mf_yield (i := 28) (d := 88) (.bool true) rfl rfl (by kernel_rfl) (by kernel_rfl) (by kernel_rfl) (by kernel_rfl) hS (y_run (by rfl) fun _ => by rfl) ?_
  simp only [Act.put, List.setIfInBounds_toArray, List.set_cons_zero, List.set_cons_succ]
  refine mf_yield (i := 29) (d := 6) (.bool true) rfl rfl (by kernel_rfl) (by kernel_rfl) (by kernel_rfl) (by kernel_rfl) hS (y_run (by rfl) fun _ => by rfl) ?_
  simp only [Act.put, List.setIfInBounds_toArray, List.set_cons_zero, List.set_cons_succ]
  refine mf_done (by kernel_rfl) ?_
  have HB := Lib.hid hS.below
  clear hS
  go_wp2_with fail
  go_ret
  exact ⟨rfl, HB.out⟩

theorem back_all (p : Pv) (a y : Nat) (w : World) (ho : p.Ok) (hd : p.d.length ≤ maxLen) (ha : a < 256) (hy : y < 256) :
    Calls Try.prog 3 #[.agg (pgV p), .int .u8 a, .int .u8 y] w fun e w' => e = .returned (.bool true) ∧ Below w.heap.size w w' := by
  by_cases hb : 200 < p.d.length
  · exact back_big p a y w ho hd ha hy hb
  · by_cases hr : p.right
    · by_cases h0 : y = 0
      · exact back_same p a y w ho hd ha hy hb hr h0
      · exact back_turn p a y w ho hd ha hy hb hr h0
    · exact back_not p a y w ho hd ha hy hb hr
theorem back_int (p : Pv) (a y : Int) (w : World) (ho : p.Ok) (hd : p.d.length ≤ maxLen) (ha : 0 ≤ a ∧ a ≤ 255) (hy : 0 ≤ y ∧ y ≤ 255) :
    Calls Try.prog 3 #[.agg (pgV p), .int .u8 a, .int .u8 y] w fun e w' => e = .returned (.bool true) ∧ Below w.heap.size w w' := by
  obtain ⟨m, rfl⟩ : ∃ m : Nat, a = m := ⟨a.toNat, by omega⟩
  obtain ⟨n, rfl⟩ : ∃ n : Nat, y = n := ⟨y.toNat, by omega⟩
  exact back_all p m n w ho hd (by omega) (by omega)
end Go.Proofs.Yteahbdnnieaaaaa.Pa
