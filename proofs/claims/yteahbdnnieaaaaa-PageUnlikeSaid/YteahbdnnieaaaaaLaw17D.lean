/- The statement PageUnlike. -/
import Derived.Test.YteahbdnnieaaaaaPaK
set_option maxRecDepth 100000
set_option linter.unusedVariables false
set_option linter.unusedSimpArgs false
namespace Go.Proofs.Yteahbdnnieaaaaa.Pa
open Go.RowKit Go.Proofs.Yteahbdnnieaaaaa.Row Go.Proofs.Yteahbdnnieaaaaa.Crc

set_option maxHeartbeats 4000000 in
theorem unlike_big (p q : Pv) (w : World) (ho : p.Ok) (hd : p.d.length ≤ maxLen) (ho2 : q.Ok) (hd2 : q.d.length ≤ maxLen) (hbig : 200 < p.d.length) :
    Calls Try.prog 6 #[.agg (pgV p), .agg (pgV q)] w fun e w' => e = .returned (.bool true) ∧ Below w.heap.size w w' := by
  have hI0 := (((Hv.start w).alloc (pgV p) 24).alloc (pgV q) 24)
  simp only [List.nil_append, List.cons_append, World.size_alloc] at hI0
  have HI0 := Lib.hid hI0
  clear hI0
  have HO := Lib.hid ho
  have HD := Lib.hid hd
  obtain ⟨P, hP⟩ : ∃ P, pgV p = P := ⟨_, rfl⟩
  obtain ⟨X, hX⟩ : ∃ X : ByteArray, ⟨p.d.toArray⟩ = X := ⟨_, rfl⟩
  have HP := Lib.hid hP
  have HPS := Lib.hid (show P.size = 6 by rw [← hP]; rfl)
  have HXX := Lib.hid hX
  have HX5 := Lib.hid (show P[5]? = some (.string X) by rw [← hP, ← hX]; rfl)
  obtain ⟨N, hN⟩ : ∃ N, p.d.length = N := ⟨_, rfl⟩
  have hs : X.size = N := by rw [← hX, ← hN]; simp [ByteArray.size]
  have HN := Lib.hid hN
  have HO2 := Lib.hid ho2
  have HD2 := Lib.hid hd2
  obtain ⟨Q, hP2⟩ : ∃ P, pgV q = P := ⟨_, rfl⟩
  obtain ⟨Y, hX2⟩ : ∃ X : ByteArray, ⟨q.d.toArray⟩ = X := ⟨_, rfl⟩
  have HP2 := Lib.hid hP2
  have HPS2 := Lib.hid (show Q.size = 6 by rw [← hP2]; rfl)
  have HXX2 := Lib.hid hX2
  have HX52 := Lib.hid (show Q[5]? = some (.string Y) by rw [← hP2, ← hX2]; rfl)
  obtain ⟨M, hN2⟩ : ∃ N, q.d.length = N := ⟨_, rfl⟩
  have hs2 : Y.size = M := by rw [← hX2, ← hN2]; simp [ByteArray.size]
  have HN2 := Lib.hid hN2
  have hzp := zero_api
  rw [hP, hP2] at HI0
  rw [hP, hP2]
  have hbig' : 200 < N := by rw [← hN]; exact hbig
  clear hbig
  clear ho hd hP hX hN ho2 hd2 hP2 hX2 hN2
  go_enter Try.func6, Try.ntmps6
  go_wp2_with fail
  refine (awake_as _).mono ?_
  rintro e w1 ⟨rfl, hb⟩
  have HI1 := Lib.hid (HI0.out.next hb)
  clear hb
  have c5 : w1.cell? ⟨w.heap.size, 5, none⟩ = some (.string X) := by rw [cell_of_row _ _ _ _ _ _ (HI1.out.at (i := 0) rfl)]; exact HX5.out
  have d5 : w1.cell? ⟨w.heap.size + 1, 5, none⟩ = some (.string Y) := by rw [cell_of_row _ _ _ _ _ _ (HI1.out.at (i := 1) rfl)]; exact HX52.out
  go_wp2_with fail
  refine (awake_as _).mono ?_
  rintro e w2 ⟨rfl, hb⟩
  have HI2 := Lib.hid (HI1.out.next hb)
  clear hb
  go_wp2_with fail
  go_ret
  exact ⟨rfl, HI2.out.below⟩

set_option maxHeartbeats 4000000 in
theorem unlike_big2 (p q : Pv) (w : World) (ho : p.Ok) (hd : p.d.length ≤ maxLen) (ho2 : q.Ok) (hd2 : q.d.length ≤ maxLen) (hbig : ¬ 200 < p.d.length) (hbig2 : 200 < q.d.length) :
    Calls Try.prog 6 #[.agg (pgV p), .agg (pgV q)] w fun e w' => e = .returned (.bool true) ∧ Below w.heap.size w w' := by
  have hI0 := (((Hv.start w).alloc (pgV p) 24).alloc (pgV q) 24)
  simp only [List.nil_append, List.cons_append, World.size_alloc] at hI0
  have HI0 := Lib.hid hI0
  clear hI0
  have HO := Lib.hid ho
  have HD := Lib.hid hd
  obtain ⟨P, hP⟩ : ∃ P, pgV p = P := ⟨_, rfl⟩
  obtain ⟨X, hX⟩ : ∃ X : ByteArray, ⟨p.d.toArray⟩ = X := ⟨_, rfl⟩
  have HP := Lib.hid hP
  have HPS := Lib.hid (show P.size = 6 by rw [← hP]; rfl)
  have HXX := Lib.hid hX
  have HX5 := Lib.hid (show P[5]? = some (.string X) by rw [← hP, ← hX]; rfl)
  obtain ⟨N, hN⟩ : ∃ N, p.d.length = N := ⟨_, rfl⟩
  have hs : X.size = N := by rw [← hX, ← hN]; simp [ByteArray.size]
  have HN := Lib.hid hN
  have HO2 := Lib.hid ho2
  have HD2 := Lib.hid hd2
  obtain ⟨Q, hP2⟩ : ∃ P, pgV q = P := ⟨_, rfl⟩
  obtain ⟨Y, hX2⟩ : ∃ X : ByteArray, ⟨q.d.toArray⟩ = X := ⟨_, rfl⟩
  have HP2 := Lib.hid hP2
  have HPS2 := Lib.hid (show Q.size = 6 by rw [← hP2]; rfl)
  have HXX2 := Lib.hid hX2
  have HX52 := Lib.hid (show Q[5]? = some (.string Y) by rw [← hP2, ← hX2]; rfl)
  obtain ⟨M, hN2⟩ : ∃ N, q.d.length = N := ⟨_, rfl⟩
  have hs2 : Y.size = M := by rw [← hX2, ← hN2]; simp [ByteArray.size]
  have HN2 := Lib.hid hN2
  have hzp := zero_api
  rw [hP, hP2] at HI0
  rw [hP, hP2]
  have hbig' : ¬ 200 < N := by rw [← hN]; exact hbig
  clear hbig
  have hbig'2 : 200 < M := by rw [← hN2]; exact hbig2
  clear hbig2
  clear ho hd hP hX hN ho2 hd2 hP2 hX2 hN2
  go_enter Try.func6, Try.ntmps6
  go_wp2_with fail
  refine (awake_as _).mono ?_
  rintro e w1 ⟨rfl, hb⟩
  have HI1 := Lib.hid (HI0.out.next hb)
  clear hb
  have c5 : w1.cell? ⟨w.heap.size, 5, none⟩ = some (.string X) := by rw [cell_of_row _ _ _ _ _ _ (HI1.out.at (i := 0) rfl)]; exact HX5.out
  have d5 : w1.cell? ⟨w.heap.size + 1, 5, none⟩ = some (.string Y) := by rw [cell_of_row _ _ _ _ _ _ (HI1.out.at (i := 1) rfl)]; exact HX52.out
  go_wp2_with fail
  refine (awake_as _).mono ?_
  rintro e w2 ⟨rfl, hb⟩
  have HI2 := Lib.hid (HI1.out.next hb)
  clear hb
  go_wp2_with fail
  go_ret
  exact ⟨rfl, HI2.out.below⟩

set_option maxHeartbeats 4000000 in
theorem unlike_no (p q : Pv) (w : World) (ho : p.Ok) (hd : p.d.length ≤ maxLen) (ho2 : q.Ok) (hd2 : q.d.length ≤ maxLen) (hbig : ¬ 200 < p.d.length) (hbig2 : ¬ 200 < q.d.length) (hr : ¬ p.right) (hr2 : ¬ q.right) :
    Calls Try.prog 6 #[.agg (pgV p), .agg (pgV q)] w fun e w' => e = .returned (.bool true) ∧ Below w.heap.size w w' := by
  have hI0 := (((Hv.start w).alloc (pgV p) 24).alloc (pgV q) 24)
  simp only [List.nil_append, List.cons_append, World.size_alloc] at hI0
  have HI0 := Lib.hid hI0
  clear hI0
  have HO := Lib.hid ho
  have HD := Lib.hid hd
  obtain ⟨P, hP⟩ : ∃ P, pgV p = P := ⟨_, rfl⟩
  obtain ⟨X, hX⟩ : ∃ X : ByteArray, ⟨p.d.toArray⟩ = X := ⟨_, rfl⟩
  have HP := Lib.hid hP
  have HPS := Lib.hid (show P.size = 6 by rw [← hP]; rfl)
  have HXX := Lib.hid hX
  have HX5 := Lib.hid (show P[5]? = some (.string X) by rw [← hP, ← hX]; rfl)
  obtain ⟨N, hN⟩ : ∃ N, p.d.length = N := ⟨_, rfl⟩
  have hs : X.size = N := by rw [← hX, ← hN]; simp [ByteArray.size]
  have HN := Lib.hid hN
  have HO2 := Lib.hid ho2
  have HD2 := Lib.hid hd2
  obtain ⟨Q, hP2⟩ : ∃ P, pgV q = P := ⟨_, rfl⟩
  obtain ⟨Y, hX2⟩ : ∃ X : ByteArray, ⟨q.d.toArray⟩ = X := ⟨_, rfl⟩
  have HP2 := Lib.hid hP2
  have HPS2 := Lib.hid (show Q.size = 6 by rw [← hP2]; rfl)
  have HXX2 := Lib.hid hX2
  have HX52 := Lib.hid (show Q[5]? = some (.string Y) by rw [← hP2, ← hX2]; rfl)
  obtain ⟨M, hN2⟩ : ∃ N, q.d.length = N := ⟨_, rfl⟩
  have hs2 : Y.size = M := by rw [← hX2, ← hN2]; simp [ByteArray.size]
  have HN2 := Lib.hid hN2
  have hzp := zero_api
  rw [hP, hP2] at HI0
  rw [hP, hP2]
  have hbig' : ¬ 200 < N := by rw [← hN]; exact hbig
  clear hbig
  have hbig'2 : ¬ 200 < M := by rw [← hN2]; exact hbig2
  clear hbig2
  have HR := Lib.hid hr
  clear hr
  have HR2 := Lib.hid hr2
  clear hr2
  clear ho hd hP hX hN ho2 hd2 hP2 hX2 hN2
  go_enter Try.func6, Try.ntmps6
  go_wp2_with fail
  refine (awake_as _).mono ?_
  rintro e w1 ⟨rfl, hb⟩
  have HI1 := Lib.hid (HI0.out.next hb)
  clear hb
  have c5 : w1.cell? ⟨w.heap.size, 5, none⟩ = some (.string X) := by rw [cell_of_row _ _ _ _ _ _ (HI1.out.at (i := 0) rfl)]; exact HX5.out
  have d5 : w1.cell? ⟨w.heap.size + 1, 5, none⟩ = some (.string Y) := by rw [cell_of_row _ _ _ _ _ _ (HI1.out.at (i := 1) rfl)]; exact HX52.out
  go_upto_region 3 with (first
    | (refine wpList_load_w rfl 24 _ rfl _ rfl (HI1.out.at (i := 0) rfl) Try.underlying24 rfl (info_rp HPS.out) ?_)
    | fail)
  go_wp2_with (first
    | (refine wpList_load_w rfl 24 _ rfl _ rfl (HI1.out.at (i := 0) rfl) Try.underlying24 rfl (info_rp HPS.out) ?_)
    | fail)
  rw [← HP.out]
  refine (of_any p _).mono ?_
  rintro e w2 ⟨rfl, hb⟩
  have HI2 := Lib.hid (HI1.out.next hb)
  clear hb
  go_wp2_with fail
  refine (lay_no p _ HD.out HR.out).mono ?_
  rintro e w3 ⟨rfl, hb⟩
  have HI3 := Lib.hid (HI2.out.next hb)
  clear hb
  rw [HP.out]
  obtain ⟨l, hl⟩ : ∃ l, z64 = l := ⟨_, rfl⟩
  have HEl := Lib.hid hl
  have HLl := Lib.hid (show l.length = 64 by rw [← hl]; exact z64_len)
  have HSl := Lib.hid (show (bl l).size = 64 by rw [bl_size, HLl.out])
  have HZl := Lib.hid (show (bl z64).size = 64 by rw [bl_size, z64_len])
  have H1l := Lib.hid (bl_one l)
  rw [hl]
  clear hl
  go_upto_region 4 with (first
    | (refine wpList_store_row rfl 27 _ _ rfl w3.heap.size (bl l) rfl rfl _ _ (heap_alloc_new _ _) (info_api HSl.out) (by first | rfl | rw [HZl.out, HSl.out]) H1l.out ?_)
    | fail)
  rw [World.setRow_alloc_new]
  have HI4 := Lib.hid (HI3.out.alloc (bl l) 27)
  have HGgb := Lib.hid (HI3.out.below.size)
  revert HI4 HGgb
  generalize World.alloc w3 _ = W4
  generalize w3.heap.size = gb
  intro HI4 HGgb
  simp only [List.nil_append, List.cons_append] at HI4
  go_wp2_with (first
    | (refine wpList_load_w rfl 24 _ rfl _ rfl (HI4.out.at (i := 1) rfl) Try.underlying24 rfl (info_rp HPS2.out) ?_)
    | fail)
  rw [← HP2.out]
  refine (of_any q _).mono ?_
  rintro e w5 ⟨rfl, hb⟩
  have HI5 := Lib.hid (HI4.out.next hb)
  clear hb
  go_wp2_with fail
  refine (lay_no q _ HD2.out HR2.out).mono ?_
  rintro e w6 ⟨rfl, hb⟩
  have HI6 := Lib.hid (HI5.out.next hb)
  clear hb
  rw [HP2.out]
  obtain ⟨m, hm⟩ : ∃ l, z64 = l := ⟨_, rfl⟩
  have HEm := Lib.hid hm
  have HLm := Lib.hid (show m.length = 64 by rw [← hm]; exact z64_len)
  have HSm := Lib.hid (show (bl m).size = 64 by rw [bl_size, HLm.out])
  have HZm := Lib.hid (show (bl z64).size = 64 by rw [bl_size, z64_len])
  have H1m := Lib.hid (bl_one m)
  rw [hm]
  clear hm
  go_upto_region 5 with (first
    | (refine wpList_store_row rfl 27 _ _ rfl w6.heap.size (bl m) rfl rfl _ _ (heap_alloc_new _ _) (info_api HSm.out) (by first | rfl | rw [HZm.out, HSm.out]) H1m.out ?_)
    | fail)
  rw [World.setRow_alloc_new]
  have HI7 := Lib.hid (HI6.out.alloc (bl m) 27)
  have HGgc := Lib.hid (HI6.out.below.size)
  revert HI7 HGgc
  generalize World.alloc w6 _ = W7
  generalize w6.heap.size = gc
  intro HI7 HGgc
  simp only [List.nil_append, List.cons_append] at HI7
  go_wp2_with fail
  go_ret
  exact ⟨rfl, HI7.out.below⟩

set_option maxHeartbeats 4000000 in
theorem unlike_no1 (p q : Pv) (w : World) (ho : p.Ok) (hd : p.d.length ≤ maxLen) (ho2 : q.Ok) (hd2 : q.d.length ≤ maxLen) (hbig : ¬ 200 < p.d.length) (hbig2 : ¬ 200 < q.d.length) (hr : ¬ p.right) (hr2 : q.right) :
    Calls Try.prog 6 #[.agg (pgV p), .agg (pgV q)] w fun e w' => e = .returned (.bool true) ∧ Below w.heap.size w w' := by
  have hI0 := (((Hv.start w).alloc (pgV p) 24).alloc (pgV q) 24)
  simp only [List.nil_append, List.cons_append, World.size_alloc] at hI0
  have HI0 := Lib.hid hI0
  clear hI0
  have HO := Lib.hid ho
  have HD := Lib.hid hd
  obtain ⟨P, hP⟩ : ∃ P, pgV p = P := ⟨_, rfl⟩
  obtain ⟨X, hX⟩ : ∃ X : ByteArray, ⟨p.d.toArray⟩ = X := ⟨_, rfl⟩
  have HP := Lib.hid hP
  have HPS := Lib.hid (show P.size = 6 by rw [← hP]; rfl)
  have HXX := Lib.hid hX
  have HX5 := Lib.hid (show P[5]? = some (.string X) by rw [← hP, ← hX]; rfl)
  obtain ⟨N, hN⟩ : ∃ N, p.d.length = N := ⟨_, rfl⟩
  have hs : X.size = N := by rw [← hX, ← hN]; simp [ByteArray.size]
  have HN := Lib.hid hN
  have HO2 := Lib.hid ho2
  have HD2 := Lib.hid hd2
  obtain ⟨Q, hP2⟩ : ∃ P, pgV q = P := ⟨_, rfl⟩
  obtain ⟨Y, hX2⟩ : ∃ X : ByteArray, ⟨q.d.toArray⟩ = X := ⟨_, rfl⟩
  have HP2 := Lib.hid hP2
  have HPS2 := Lib.hid (show Q.size = 6 by rw [← hP2]; rfl)
  have HXX2 := Lib.hid hX2
  have HX52 := Lib.hid (show Q[5]? = some (.string Y) by rw [← hP2, ← hX2]; rfl)
  obtain ⟨M, hN2⟩ : ∃ N, q.d.length = N := ⟨_, rfl⟩
  have hs2 : Y.size = M := by rw [← hX2, ← hN2]; simp [ByteArray.size]
  have HN2 := Lib.hid hN2
  have hzp := zero_api
  rw [hP, hP2] at HI0
  rw [hP, hP2]
  have hbig' : ¬ 200 < N := by rw [← hN]; exact hbig
  clear hbig
  have hbig'2 : ¬ 200 < M := by rw [← hN2]; exact hbig2
  clear hbig2
  have HR := Lib.hid hr
  clear hr
  have HR2 := Lib.hid hr2
  clear hr2
  clear ho hd hP hX hN ho2 hd2 hP2 hX2 hN2
  go_enter Try.func6, Try.ntmps6
  go_wp2_with fail
  refine (awake_as _).mono ?_
  rintro e w1 ⟨rfl, hb⟩
  have HI1 := Lib.hid (HI0.out.next hb)
  clear hb
  have c5 : w1.cell? ⟨w.heap.size, 5, none⟩ = some (.string X) := by rw [cell_of_row _ _ _ _ _ _ (HI1.out.at (i := 0) rfl)]; exact HX5.out
  have d5 : w1.cell? ⟨w.heap.size + 1, 5, none⟩ = some (.string Y) := by rw [cell_of_row _ _ _ _ _ _ (HI1.out.at (i := 1) rfl)]; exact HX52.out
  go_upto_region 3 with (first
    | (refine wpList_load_w rfl 24 _ rfl _ rfl (HI1.out.at (i := 0) rfl) Try.underlying24 rfl (info_rp HPS.out) ?_)
    | fail)
  go_wp2_with (first
    | (refine wpList_load_w rfl 24 _ rfl _ rfl (HI1.out.at (i := 0) rfl) Try.underlying24 rfl (info_rp HPS.out) ?_)
    | fail)
  rw [← HP.out]
  refine (of_any p _).mono ?_
  rintro e w2 ⟨rfl, hb⟩
  have HI2 := Lib.hid (HI1.out.next hb)
  clear hb
  go_wp2_with fail
  refine (lay_no p _ HD.out HR.out).mono ?_
  rintro e w3 ⟨rfl, hb⟩
  have HI3 := Lib.hid (HI2.out.next hb)
  clear hb
  rw [HP.out]
  obtain ⟨l, hl⟩ : ∃ l, z64 = l := ⟨_, rfl⟩
  have HEl := Lib.hid hl
  have HLl := Lib.hid (show l.length = 64 by rw [← hl]; exact z64_len)
  have HSl := Lib.hid (show (bl l).size = 64 by rw [bl_size, HLl.out])
  have HZl := Lib.hid (show (bl z64).size = 64 by rw [bl_size, z64_len])
  have H1l := Lib.hid (bl_one l)
  rw [hl]
  clear hl
  go_upto_region 4 with (first
    | (refine wpList_store_row rfl 27 _ _ rfl w3.heap.size (bl l) rfl rfl _ _ (heap_alloc_new _ _) (info_api HSl.out) (by first | rfl | rw [HZl.out, HSl.out]) H1l.out ?_)
    | fail)
  rw [World.setRow_alloc_new]
  have HI4 := Lib.hid (HI3.out.alloc (bl l) 27)
  have HGgb := Lib.hid (HI3.out.below.size)
  revert HI4 HGgb
  generalize World.alloc w3 _ = W4
  generalize w3.heap.size = gb
  intro HI4 HGgb
  simp only [List.nil_append, List.cons_append] at HI4
  go_wp2_with (first
    | (refine wpList_load_w rfl 24 _ rfl _ rfl (HI4.out.at (i := 1) rfl) Try.underlying24 rfl (info_rp HPS2.out) ?_)
    | fail)
  rw [← HP2.out]
  refine (of_any q _).mono ?_
  rintro e w5 ⟨rfl, hb⟩
  have HI5 := Lib.hid (HI4.out.next hb)
  clear hb
  go_wp2_with fail
  refine (lay_yes q _ HD2.out HO2.out HR2.out).mono ?_
  rintro e w6 ⟨rfl, hb⟩
  have HI6 := Lib.hid (HI5.out.next hb)
  clear hb
  rw [HP2.out]
  obtain ⟨m, hm⟩ : ∃ l, q.lay = l := ⟨_, rfl⟩
  have HEm := Lib.hid hm
  have HLm := Lib.hid (show m.length = 64 by rw [← hm]; exact Pv.lay_length HR2.out)
  have HSm := Lib.hid (show (bl m).size = 64 by rw [bl_size, HLm.out])
  have HZm := Lib.hid (show (bl z64).size = 64 by rw [bl_size, z64_len])
  have H1m := Lib.hid (bl_one m)
  rw [hm]
  clear hm
  go_upto_region 5 with (first
    | (refine wpList_store_row rfl 27 _ _ rfl w6.heap.size (bl m) rfl rfl _ _ (heap_alloc_new _ _) (info_api HSm.out) (by first | rfl | rw [HZm.out, HSm.out]) H1m.out ?_)
    | fail)
  rw [World.setRow_alloc_new]
  have HI7 := Lib.hid (HI6.out.alloc (bl m) 27)
  have HGgc := Lib.hid (HI6.out.below.size)
  revert HI7 HGgc
  generalize World.alloc w6 _ = W7
  generalize w6.heap.size = gc
  intro HI7 HGgc
  simp only [List.nil_append, List.cons_append] at HI7
  go_wp2_with fail
  go_ret
  exact ⟨rfl, HI7.out.below⟩

set_option maxHeartbeats 4000000 in
theorem unlike_no2 (p q : Pv) (w : World) (ho : p.Ok) (hd : p.d.length ≤ maxLen) (ho2 : q.Ok) (hd2 : q.d.length ≤ maxLen) (hbig : ¬ 200 < p.d.length) (hbig2 : ¬ 200 < q.d.length) (hr : p.right) (hr2 : ¬ q.right) :
    Calls Try.prog 6 #[.agg (pgV p), .agg (pgV q)] w fun e w' => e = .returned (.bool true) ∧ Below w.heap.size w w' := by
  have hI0 := (((Hv.start w).alloc (pgV p) 24).alloc (pgV q) 24)
  simp only [List.nil_append, List.cons_append, World.size_alloc] at hI0
  have HI0 := Lib.hid hI0
  clear hI0
  have HO := Lib.hid ho
  have HD := Lib.hid hd
  obtain ⟨P, hP⟩ : ∃ P, pgV p = P := ⟨_, rfl⟩
  obtain ⟨X, hX⟩ : ∃ X : ByteArray, ⟨p.d.toArray⟩ = X := ⟨_, rfl⟩
  have HP := Lib.hid hP
  have HPS := Lib.hid (show P.size = 6 by rw [← hP]; rfl)
  have HXX := Lib.hid hX
  have HX5 := Lib.hid (show P[5]? = some (.string X) by rw [← hP, ← hX]; rfl)
  obtain ⟨N, hN⟩ : ∃ N, p.d.length = N := ⟨_, rfl⟩
  have hs : X.size = N := by rw [← hX, ← hN]; simp [ByteArray.size]
  have HN := Lib.hid hN
  have HO2 := Lib.hid ho2
  have HD2 := Lib.hid hd2
  obtain ⟨Q, hP2⟩ : ∃ P, pgV q = P := ⟨_, rfl⟩
  obtain ⟨Y, hX2⟩ : ∃ X : ByteArray, ⟨q.d.toArray⟩ = X := ⟨_, rfl⟩
  have HP2 := Lib.hid hP2
  have HPS2 := Lib.hid (show Q.size = 6 by rw [← hP2]; rfl)
  have HXX2 := Lib.hid hX2
  have HX52 := Lib.hid (show Q[5]? = some (.string Y) by rw [← hP2, ← hX2]; rfl)
  obtain ⟨M, hN2⟩ : ∃ N, q.d.length = N := ⟨_, rfl⟩
  have hs2 : Y.size = M := by rw [← hX2, ← hN2]; simp [ByteArray.size]
  have HN2 := Lib.hid hN2
  have hzp := zero_api
  rw [hP, hP2] at HI0
  rw [hP, hP2]
  have hbig' : ¬ 200 < N := by rw [← hN]; exact hbig
  clear hbig
  have hbig'2 : ¬ 200 < M := by rw [← hN2]; exact hbig2
  clear hbig2
  have HR := Lib.hid hr
  clear hr
  have HR2 := Lib.hid hr2
  clear hr2
  clear ho hd hP hX hN ho2 hd2 hP2 hX2 hN2
  go_enter Try.func6, Try.ntmps6
  go_wp2_with fail
  refine (awake_as _).mono ?_
  rintro e w1 ⟨rfl, hb⟩
  have HI1 := Lib.hid (HI0.out.next hb)
  clear hb
  have c5 : w1.cell? ⟨w.heap.size, 5, none⟩ = some (.string X) := by rw [cell_of_row _ _ _ _ _ _ (HI1.out.at (i := 0) rfl)]; exact HX5.out
  have d5 : w1.cell? ⟨w.heap.size + 1, 5, none⟩ = some (.string Y) := by rw [cell_of_row _ _ _ _ _ _ (HI1.out.at (i := 1) rfl)]; exact HX52.out
  go_upto_region 3 with (first
    | (refine wpList_load_w rfl 24 _ rfl _ rfl (HI1.out.at (i := 0) rfl) Try.underlying24 rfl (info_rp HPS.out) ?_)
    | fail)
  go_wp2_with (first
    | (refine wpList_load_w rfl 24 _ rfl _ rfl (HI1.out.at (i := 0) rfl) Try.underlying24 rfl (info_rp HPS.out) ?_)
    | fail)
  rw [← HP.out]
  refine (of_any p _).mono ?_
  rintro e w2 ⟨rfl, hb⟩
  have HI2 := Lib.hid (HI1.out.next hb)
  clear hb
  go_wp2_with fail
  refine (lay_yes p _ HD.out HO.out HR.out).mono ?_
  rintro e w3 ⟨rfl, hb⟩
  have HI3 := Lib.hid (HI2.out.next hb)
  clear hb
  rw [HP.out]
  obtain ⟨l, hl⟩ : ∃ l, p.lay = l := ⟨_, rfl⟩
  have HEl := Lib.hid hl
  have HLl := Lib.hid (show l.length = 64 by rw [← hl]; exact Pv.lay_length HR.out)
  have HSl := Lib.hid (show (bl l).size = 64 by rw [bl_size, HLl.out])
  have HZl := Lib.hid (show (bl z64).size = 64 by rw [bl_size, z64_len])
  have H1l := Lib.hid (bl_one l)
  rw [hl]
  clear hl
  go_upto_region 4 with (first
    | (refine wpList_store_row rfl 27 _ _ rfl w3.heap.size (bl l) rfl rfl _ _ (heap_alloc_new _ _) (info_api HSl.out) (by first | rfl | rw [HZl.out, HSl.out]) H1l.out ?_)
    | fail)
  rw [World.setRow_alloc_new]
  have HI4 := Lib.hid (HI3.out.alloc (bl l) 27)
  have HGgb := Lib.hid (HI3.out.below.size)
  revert HI4 HGgb
  generalize World.alloc w3 _ = W4
  generalize w3.heap.size = gb
  intro HI4 HGgb
  simp only [List.nil_append, List.cons_append] at HI4
  go_wp2_with (first
    | (refine wpList_load_w rfl 24 _ rfl _ rfl (HI4.out.at (i := 1) rfl) Try.underlying24 rfl (info_rp HPS2.out) ?_)
    | fail)
  rw [← HP2.out]
  refine (of_any q _).mono ?_
  rintro e w5 ⟨rfl, hb⟩
  have HI5 := Lib.hid (HI4.out.next hb)
  clear hb
  go_wp2_with fail
  refine (lay_no q _ HD2.out HR2.out).mono ?_
  rintro e w6 ⟨rfl, hb⟩
  have HI6 := Lib.hid (HI5.out.next hb)
  clear hb
  rw [HP2.out]
  obtain ⟨m, hm⟩ : ∃ l, z64 = l := ⟨_, rfl⟩
  have HEm := Lib.hid hm
  have HLm := Lib.hid (show m.length = 64 by rw [← hm]; exact z64_len)
  have HSm := Lib.hid (show (bl m).size = 64 by rw [bl_size, HLm.out])
  have HZm := Lib.hid (show (bl z64).size = 64 by rw [bl_size, z64_len])
  have H1m := Lib.hid (bl_one m)
  rw [hm]
  clear hm
  go_upto_region 5 with (first
    | (refine wpList_store_row rfl 27 _ _ rfl w6.heap.size (bl m) rfl rfl _ _ (heap_alloc_new _ _) (info_api HSm.out) (by first | rfl | rw [HZm.out, HSm.out]) H1m.out ?_)
    | fail)
  rw [World.setRow_alloc_new]
  have HI7 := Lib.hid (HI6.out.alloc (bl m) 27)
  have HGgc := Lib.hid (HI6.out.below.size)
  revert HI7 HGgc
  generalize World.alloc w6 _ = W7
  generalize w6.heap.size = gc
  intro HI7 HGgc
  simp only [List.nil_append, List.cons_append] at HI7
  go_wp2_with fail
  go_ret
  exact ⟨rfl, HI7.out.below⟩

set_option maxHeartbeats 4000000 in
theorem unlike_yes (p q : Pv) (w : World) (ho : p.Ok) (hd : p.d.length ≤ maxLen) (ho2 : q.Ok) (hd2 : q.d.length ≤ maxLen) (hbig : ¬ 200 < p.d.length) (hbig2 : ¬ 200 < q.d.length) (hr : p.right) (hr2 : q.right) :
    Calls Try.prog 6 #[.agg (pgV p), .agg (pgV q)] w fun e w' => e = .returned (.bool true) ∧ Below w.heap.size w w' := by
  have hI0 := (((Hv.start w).alloc (pgV p) 24).alloc (pgV q) 24)
  simp only [List.nil_append, List.cons_append, World.size_alloc] at hI0
  have HI0 := Lib.hid hI0
  clear hI0
  have HO := Lib.hid ho
  have HD := Lib.hid hd
  obtain ⟨P, hP⟩ : ∃ P, pgV p = P := ⟨_, rfl⟩
  obtain ⟨X, hX⟩ : ∃ X : ByteArray, ⟨p.d.toArray⟩ = X := ⟨_, rfl⟩
  have HP := Lib.hid hP
  have HPS := Lib.hid (show P.size = 6 by rw [← hP]; rfl)
  have HXX := Lib.hid hX
  have HX5 := Lib.hid (show P[5]? = some (.string X) by rw [← hP, ← hX]; rfl)
  obtain ⟨N, hN⟩ : ∃ N, p.d.length = N := ⟨_, rfl⟩
  have hs : X.size = N := by rw [← hX, ← hN]; simp [ByteArray.size]
  have HN := Lib.hid hN
  have HO2 := Lib.hid ho2
  have HD2 := Lib.hid hd2
  obtain ⟨Q, hP2⟩ : ∃ P, pgV q = P := ⟨_, rfl⟩
  obtain ⟨Y, hX2⟩ : ∃ X : ByteArray, ⟨q.d.toArray⟩ = X := ⟨_, rfl⟩
  have HP2 := Lib.hid hP2
  have HPS2 := Lib.hid (show Q.size = 6 by rw [← hP2]; rfl)
  have HXX2 := Lib.hid hX2
  have HX52 := Lib.hid (show Q[5]? = some (.string Y) by rw [← hP2, ← hX2]; rfl)
  obtain ⟨M, hN2⟩ : ∃ N, q.d.length = N := ⟨_, rfl⟩
  have hs2 : Y.size = M := by rw [← hX2, ← hN2]; simp [ByteArray.size]
  have HN2 := Lib.hid hN2
  have hzp := zero_api
  rw [hP, hP2] at HI0
  rw [hP, hP2]
  have hbig' : ¬ 200 < N := by rw [← hN]; exact hbig
  clear hbig
  have hbig'2 : ¬ 200 < M := by rw [← hN2]; exact hbig2
  clear hbig2
  have HR := Lib.hid hr
  clear hr
  have HR2 := Lib.hid hr2
  clear hr2
  clear ho hd hP hX hN ho2 hd2 hP2 hX2 hN2
  go_enter Try.func6, Try.ntmps6
  go_wp2_with fail
  refine (awake_as _).mono ?_
  rintro e w1 ⟨rfl, hb⟩
  have HI1 := Lib.hid (HI0.out.next hb)
  clear hb
  have c5 : w1.cell? ⟨w.heap.size, 5, none⟩ = some (.string X) := by rw [cell_of_row _ _ _ _ _ _ (HI1.out.at (i := 0) rfl)]; exact HX5.out
  have d5 : w1.cell? ⟨w.heap.size + 1, 5, none⟩ = some (.string Y) := by rw [cell_of_row _ _ _ _ _ _ (HI1.out.at (i := 1) rfl)]; exact HX52.out
  go_upto_region 3 with (first
    | (refine wpList_load_w rfl 24 _ rfl _ rfl (HI1.out.at (i := 0) rfl) Try.underlying24 rfl (info_rp HPS.out) ?_)
    | fail)
  go_wp2_with (first
    | (refine wpList_load_w rfl 24 _ rfl _ rfl (HI1.out.at (i := 0) rfl) Try.underlying24 rfl (info_rp HPS.out) ?_)
    | fail)
  rw [← HP.out]
  refine (of_any p _).mono ?_
  rintro e w2 ⟨rfl, hb⟩
  have HI2 := Lib.hid (HI1.out.next hb)
  clear hb
  go_wp2_with fail
  refine (lay_yes p _ HD.out HO.out HR.out).mono ?_
  rintro e w3 ⟨rfl, hb⟩
  have HI3 := Lib.hid (HI2.out.next hb)
  clear hb
  rw [HP.out]
  obtain ⟨l, hl⟩ : ∃ l, p.lay = l := ⟨_, rfl⟩
  have HEl := Lib.hid hl
  have HLl := Lib.hid (show l.length = 64 by rw [← hl]; exact Pv.lay_length HR.out)
  have HSl := Lib.hid (show (bl l).size = 64 by rw [bl_size, HLl.out])
  have HZl := Lib.hid (show (bl z64).size = 64 by rw [bl_size, z64_len])
  have H1l := Lib.hid (bl_one l)
  rw [hl]
  clear hl
  go_upto_region 4 with (first
    | (refine wpList_store_row rfl 27 _ _ rfl w3.heap.size (bl l) rfl rfl _ _ (heap_alloc_new _ _) (info_api HSl.out) (by first | rfl | rw [HZl.out, HSl.out]) H1l.out ?_)
    | fail)
  rw [World.setRow_alloc_new]
  have HI4 := Lib.hid (HI3.out.alloc (bl l) 27)
  have HGgb := Lib.hid (HI3.out.below.size)
  revert HI4 HGgb
  generalize World.alloc w3 _ = W4
  generalize w3.heap.size = gb
  intro HI4 HGgb
  simp only [List.nil_append, List.cons_append] at HI4
  go_wp2_with (first
    | (refine wpList_load_w rfl 24 _ rfl _ rfl (HI4.out.at (i := 1) rfl) Try.underlying24 rfl (info_rp HPS2.out) ?_)
    | fail)
  rw [← HP2.out]
  refine (of_any q _).mono ?_
  rintro e w5 ⟨rfl, hb⟩
  have HI5 := Lib.hid (HI4.out.next hb)
  clear hb
  go_wp2_with fail
  refine (lay_yes q _ HD2.out HO2.out HR2.out).mono ?_
  rintro e w6 ⟨rfl, hb⟩
  have HI6 := Lib.hid (HI5.out.next hb)
  clear hb
  rw [HP2.out]
  obtain ⟨m, hm⟩ : ∃ l, q.lay = l := ⟨_, rfl⟩
  have HEm := Lib.hid hm
  have HLm := Lib.hid (show m.length = 64 by rw [← hm]; exact Pv.lay_length HR2.out)
  have HSm := Lib.hid (show (bl m).size = 64 by rw [bl_size, HLm.out])
  have HZm := Lib.hid (show (bl z64).size = 64 by rw [bl_size, z64_len])
  have H1m := Lib.hid (bl_one m)
  rw [hm]
  clear hm
  go_upto_region 5 with (first
    | (refine wpList_store_row rfl 27 _ _ rfl w6.heap.size (bl m) rfl rfl _ _ (heap_alloc_new _ _) (info_api HSm.out) (by first | rfl | rw [HZm.out, HSm.out]) H1m.out ?_)
    | fail)
  rw [World.setRow_alloc_new]
  have HI7 := Lib.hid (HI6.out.alloc (bl m) 27)
  have HGgc := Lib.hid (HI6.out.below.size)
  revert HI7 HGgc
  generalize World.alloc w6 _ = W7
  generalize w6.heap.size = gc
  intro HI7 HGgc
  simp only [List.nil_append, List.cons_append] at HI7
  have hpl : p.lay = l := HEl.out
  have hqm : q.lay = m := HEm.out
  obtain ⟨D, hD⟩ : ∃ D, pEq p q = D := ⟨_, rfl⟩
  have HD1 := Lib.hid (show ∀ w, (Op.equalIn 10000 27 (.agg (bl l)) (.agg (bl m))).run Try.prog w = .ok D w from fun w => by
    rw [bytes_is HLl.out HLm.out, ← hD]
    congr 1
    by_cases h : p = q
    · rw [pEq_iff.2 h, decide_eq_true (by rw [← hpl, ← hqm, h])]
    · rw [decide_eq_false (fun e => h (lay_inj HR.out HR2.out HO.out HO2.out (by rw [hpl, hqm, e])))]
      cases hq : pEq p q with
      | false => rfl
      | true => exact absurd (pEq_iff.1 hq) h)
  have HD2' := Lib.hid (show ∀ w, (Op.equalIn 10000 24 (.agg P) (.agg Q)).run Try.prog w = .ok D w from fun w => by
    rw [← HP.out, ← HP2.out, rpages_is, hD])
  obtain ⟨K, hK⟩ : ∃ K, moreS 0 (l.drop 4) = K := ⟨_, rfl⟩
  have HK := Lib.hid hK
  have HT1 := Lib.hid (show (l.drop 0).take 4 = fourL K by rw [← hK, ← hpl]; rfl)
  have HN49 := Lib.hid (show N ≤ 49 by rw [← HN.out]; exact HR.out.2.1)
  have HXS := Lib.hid (show X.size = N from hs)
  have HT2 := Lib.hid (show ((⟨((l.drop 15).take (15 + N - 15)).toArray⟩ : ByteArray).toList == X.toList) = true by
    rw [← HXX.out, str_eq, decide_eq_true_eq, ← hpl, p.lay_drop, show 15 + N - 15 = p.d.length from by rw [HN.out]; omega]
    exact List.take_left' rfl)
  clear hpl hqm hD hK
  go_wp2_with fail
  refine mf_start (Hv w [(w.heap.size, P, 24), (w.heap.size + 1, Q, 24), (gb, bl l, 27), (gc, bl m, 27)]) (fun _ => false) HI7.out.drew fun hS => ?_
  refine mf_yield (i := 0) (d := 42) (.agg (bl l)) rfl rfl (by kernel_rfl) (by kernel_rfl) (by kernel_rfl) (by kernel_rfl) hS (y_load_w (by rfl) rfl rfl (fun w' h => h.at (i := 2) rfl) Try.underlying27 rfl (info_api HSl.out)) ?_
  simp only [Act.put, List.setIfInBounds_toArray, List.set_cons_zero, List.set_cons_succ]
  refine mf_yield (i := 1) (d := 43) (.agg (bl m)) rfl rfl (by kernel_rfl) (by kernel_rfl) (by kernel_rfl) (by kernel_rfl) hS (y_load_w (by rfl) rfl rfl (fun w' h => h.at (i := 3) rfl) Try.underlying27 rfl (info_api HSm.out)) ?_
  simp only [Act.put, List.setIfInBounds_toArray, List.set_cons_zero, List.set_cons_succ]
  refine mf_yield (i := 2) (d := 44) (.bool D) rfl rfl (by kernel_rfl) (by kernel_rfl) (by kernel_rfl) (by kernel_rfl) hS (y_eql (b := D) (by rfl) rfl rfl rfl (by kernel_rfl) HD1.out) ?_
  simp only [Act.put, List.setIfInBounds_toArray, List.set_cons_zero, List.set_cons_succ]
  refine mf_yield (i := 3) (d := 45) (.agg P) rfl rfl (by kernel_rfl) (by kernel_rfl) (by kernel_rfl) (by kernel_rfl) hS (y_load_w (by rfl) rfl rfl (fun w' h => h.at (i := 0) rfl) Try.underlying24 rfl (info_rp HPS.out)) ?_
  simp only [Act.put, List.setIfInBounds_toArray, List.set_cons_zero, List.set_cons_succ]
  refine mf_yield (i := 4) (d := 46) (.agg Q) rfl rfl (by kernel_rfl) (by kernel_rfl) (by kernel_rfl) (by kernel_rfl) hS (y_load_w (by rfl) rfl rfl (fun w' h => h.at (i := 1) rfl) Try.underlying24 rfl (info_rp HPS2.out)) ?_
  simp only [Act.put, List.setIfInBounds_toArray, List.set_cons_zero, List.set_cons_succ]
  refine mf_yield (i := 5) (d := 47) (.bool D) rfl rfl (by kernel_rfl) (by kernel_rfl) (by kernel_rfl) (by kernel_rfl) hS (y_eql (b := D) (by rfl) rfl rfl rfl (by kernel_rfl) HD2'.out) ?_
  simp only [Act.put, List.setIfInBounds_toArray, List.set_cons_zero, List.set_cons_succ]
  refine mf_yield (i := 6) (d := 48) (.bool true) rfl rfl (by kernel_rfl) (by kernel_rfl) (by kernel_rfl) (by kernel_rfl) hS (y_eqlB (by rfl) rfl rfl rfl (by simp)) ?_
  simp only [Act.put, List.setIfInBounds_toArray, List.set_cons_zero, List.set_cons_succ]
  refine mf_yield (i := 7) (d := 49) (.bool true) rfl rfl (by kernel_rfl) (by kernel_rfl) (by kernel_rfl) (by kernel_rfl) hS (y_run (by rfl) fun _ => by rfl) ?_
  simp only [Act.put, List.setIfInBounds_toArray, List.set_cons_zero, List.set_cons_succ]
  refine mf_yield (i := 8) (d := 50) (.slice ((some ⟨gb, 0, none⟩)) 4 64) rfl rfl (by kernel_rfl) (by kernel_rfl) (by kernel_rfl) (by kernel_rfl) hS (y_cuth (j := 4) (by rfl) rfl rfl rfl Try.underlying27 (by kernel_rfl) rfl (by omega)) ?_
  simp only [Act.put, List.setIfInBounds_toArray, List.set_cons_zero, List.set_cons_succ]
  refine mf_yield (i := 9) (d := 51) (.string ⟨((l.drop 0).take 4).toArray⟩) rfl rfl (by kernel_rfl) (by kernel_rfl) (by kernel_rfl) (by kernel_rfl) hS (y_text (by rfl) rfl rfl (fun w' h => h.at (i := 2) rfl) (by rw [HLl.out]; omega)) ?_
  simp only [Act.put, List.setIfInBounds_toArray, List.set_cons_zero, List.set_cons_succ]
  refine mf_yield (i := 10) (d := 52) (.slice ((some ⟨gb, 4, none⟩)) 60 60) rfl rfl (by kernel_rfl) (by kernel_rfl) (by kernel_rfl) (by kernel_rfl) hS (y_cutl (j := 4) (by rfl) rfl rfl rfl Try.underlying27 (by kernel_rfl) rfl (by omega)) ?_
  simp only [Act.put, List.setIfInBounds_toArray, List.set_cons_zero, List.set_cons_succ]
  refine mf_yield (i := 11) (d := 53) (.string ⟨((l.drop 4).take 60).toArray⟩) rfl rfl (by kernel_rfl) (by kernel_rfl) (by kernel_rfl) (by kernel_rfl) hS (y_text (by rfl) rfl rfl (fun w' h => h.at (i := 2) rfl) (by rw [HLl.out]; omega)) ?_
  simp only [Act.put, List.setIfInBounds_toArray, List.set_cons_zero, List.set_cons_succ]
  refine mf_ready [12] (by kernel_rfl) (by simp) (af_call (i := 12) (d := 54) (R := fun v w' => v = .int .u32 (K : Nat) ∧ Hv w [(w.heap.size, P, 24), (w.heap.size + 1, Q, 24), (gb, bl l, 27), (gc, bl m, 27)] w') #[.string ⟨((l.drop 4).take 60).toArray⟩] rfl rfl (by rfl) rfl enter_rsum (by kernel_rfl) ((rsum_as l HLl.out _).mono fun e w' h => ⟨_, h.1, by rw [HK.out], h.2 ▸ hS⟩) (fun v w' h => h.2) ?_ AllReadyF.nil)
  rintro v v1 ⟨rfl, h10⟩ hS10
  clear hS h10
  have hS := hS10
  clear hS10
  simp only [Act.put, List.setIfInBounds_toArray, List.set_cons_zero, List.set_cons_succ]
  refine mf_ready [13] (by kernel_rfl) (by simp) (af_call (i := 13) (d := 55) (R := fun v w' => v = .string ⟨(fourL K).toArray⟩ ∧ Hv w [(w.heap.size, P, 24), (w.heap.size + 1, Q, 24), (gb, bl l, 27), (gc, bl m, 27)] w') #[.int .u32 (K : Nat)] rfl rfl (by rfl) rfl enter_rfour (by kernel_rfl) ((rfour_as K _ (by rw [← HK.out]; exact moreS_lt _ _)).mono fun e w' h => by obtain ⟨v, h1, h2, h3⟩ := h; exact ⟨v, h1, h2, hS.next h3⟩) (fun v w' h => h.2) ?_ AllReadyF.nil)
  rintro v v2 ⟨rfl, h10⟩ hS10
  clear hS h10
  have hS := hS10
  clear hS10
  simp only [Act.put, List.setIfInBounds_toArray, List.set_cons_zero, List.set_cons_succ]
  refine mf_yield (i := 14) (d := 56) (.bool true) rfl rfl (by kernel_rfl) (by kernel_rfl) (by kernel_rfl) (by kernel_rfl) hS (y_eqlS (by rfl) rfl Try.underlying9 rfl rfl ((str_eq _ _).trans (decide_eq_true HT1.out))) ?_
  simp only [Act.put, List.setIfInBounds_toArray, List.set_cons_zero, List.set_cons_succ]
  refine mf_yield (i := 15) (d := 57) (.bool true) rfl rfl (by kernel_rfl) (by kernel_rfl) (by kernel_rfl) (by kernel_rfl) hS (y_run (by rfl) fun _ => by rfl) ?_
  simp only [Act.put, List.setIfInBounds_toArray, List.set_cons_zero, List.set_cons_succ]
  refine mf_yield (i := 16) (d := 58) (.bool true) rfl rfl (by kernel_rfl) (by kernel_rfl) (by kernel_rfl) (by kernel_rfl) hS (y_run (by rfl) fun _ => by rfl) ?_
  simp only [Act.put, List.setIfInBounds_toArray, List.set_cons_zero, List.set_cons_succ]
  refine mf_yield (i := 17) (d := 59) (.pointer (some ⟨w.heap.size, 5, none⟩)) rfl rfl (by kernel_rfl) (by kernel_rfl) (by kernel_rfl) (by kernel_rfl) hS (y_fieldO (by rfl) rfl rfl (fldr 5 (by omega)) (Nat.zero_add _)) ?_
  simp only [Act.put, List.setIfInBounds_toArray, List.set_cons_zero, List.set_cons_succ]
  refine mf_yield (i := 18) (d := 60) (.string X) rfl rfl (by kernel_rfl) (by kernel_rfl) (by kernel_rfl) (by kernel_rfl) hS (y_cell1 (by rfl) rfl rfl Try.underlying9 rfl (fun w h => ((cell_of_row _ _ 5 _ _ _ (h.at (i := 0) rfl)).trans HX5.out))) ?_
  simp only [Act.put, List.setIfInBounds_toArray, List.set_cons_zero, List.set_cons_succ]
  refine mf_yield (i := 19) (d := 61) (.int .i64 ((N : Nat))) rfl rfl (by kernel_rfl) (by kernel_rfl) (by kernel_rfl) (by kernel_rfl) hS (y_lenS (by rfl) rfl rfl HXS.out) ?_
  simp only [Act.put, List.setIfInBounds_toArray, List.set_cons_zero, List.set_cons_succ]
  refine mf_yield (i := 20) (d := 62) (.int .i64 (15 + (N : Int))) rfl rfl (by kernel_rfl) (by kernel_rfl) (by kernel_rfl) (by kernel_rfl) hS (y_add (by rfl) rfl rfl rfl (IntWalk.i64_in _ (by have := HN49.out; omega))) ?_
  simp only [Act.put, List.setIfInBounds_toArray, List.set_cons_zero, List.set_cons_succ]
  refine mf_yield (i := 21) (d := 63) (.slice ((some ⟨gb, 15, none⟩)) ((15 + N - 15)) 49) rfl rfl (by kernel_rfl) (by kernel_rfl) (by kernel_rfl) (by kernel_rfl) hS (y_cutlh (j := 15) (i := 15 + N) (by rfl) rfl rfl rfl rfl Try.underlying27 (by kernel_rfl) rfl (by push_cast; rfl) (by omega) (by omega) (by have := HN49.out; omega)) ?_
  simp only [Act.put, List.setIfInBounds_toArray, List.set_cons_zero, List.set_cons_succ]
  refine mf_yield (i := 22) (d := 64) (.string ⟨((l.drop 15).take (15 + N - 15)).toArray⟩) rfl rfl (by kernel_rfl) (by kernel_rfl) (by kernel_rfl) (by kernel_rfl) hS (y_text (by rfl) rfl rfl (fun w' h => h.at (i := 2) rfl) (by rw [HLl.out]; have := HN49.out; omega)) ?_
  simp only [Act.put, List.setIfInBounds_toArray, List.set_cons_zero, List.set_cons_succ]
  refine mf_yield (i := 23) (d := 65) (.pointer (some ⟨w.heap.size, 5, none⟩)) rfl rfl (by kernel_rfl) (by kernel_rfl) (by kernel_rfl) (by kernel_rfl) hS (y_fieldO (by rfl) rfl rfl (fldr 5 (by omega)) (Nat.zero_add _)) ?_
  simp only [Act.put, List.setIfInBounds_toArray, List.set_cons_zero, List.set_cons_succ]
  refine mf_yield (i := 24) (d := 66) (.string X) rfl rfl (by kernel_rfl) (by kernel_rfl) (by kernel_rfl) (by kernel_rfl) hS (y_cell1 (by rfl) rfl rfl Try.underlying9 rfl (fun w h => ((cell_of_row _ _ 5 _ _ _ (h.at (i := 0) rfl)).trans HX5.out))) ?_
  simp only [Act.put, List.setIfInBounds_toArray, List.set_cons_zero, List.set_cons_succ]
  refine mf_yield (i := 25) (d := 67) (.bool true) rfl rfl (by kernel_rfl) (by kernel_rfl) (by kernel_rfl) (by kernel_rfl) hS (y_eqlS (by rfl) rfl Try.underlying9 rfl rfl HT2.out) ?_
  simp only [Act.put, List.setIfInBounds_toArray, List.set_cons_zero, List.set_cons_succ]
  refine mf_yield (i := 26) (d := 68) (.bool true) rfl rfl (by kernel_rfl) (by kernel_rfl) (by kernel_rfl) (by kernel_rfl) hS (y_run (by rfl) fun _ => by rfl) ?_
  simp only [Act.put, List.setIfInBounds_toArray, List.set_cons_zero, List.set_cons_succ]
  refine mf_yield (i := 27) (d := 4) (.bool true) rfl rfl (by kernel_rfl) (by kernel_rfl) (by kernel_rfl) (by kernel_rfl) hS (y_run (by rfl) fun _ => by rfl) ?_
  simp only [Act.put, List.setIfInBounds_toArray, List.set_cons_zero, List.set_cons_succ]
  refine mf_done (by kernel_rfl) ?_
  have HB := Lib.hid hS.below
  clear hS
  go_wp2_with fail
  go_ret
  exact ⟨rfl, HB.out⟩

theorem unlike_all (p q : Pv) (w : World) (ho : p.Ok) (hd : p.d.length ≤ maxLen) (ho2 : q.Ok) (hd2 : q.d.length ≤ maxLen) :
    Calls Try.prog 6 #[.agg (pgV p), .agg (pgV q)] w fun e w' => e = .returned (.bool true) ∧ Below w.heap.size w w' := by
  by_cases hb : 200 < p.d.length
  · exact unlike_big p q w ho hd ho2 hd2 hb
  by_cases hb2 : 200 < q.d.length
  · exact unlike_big2 p q w ho hd ho2 hd2 hb hb2
  by_cases hr : p.right
  · by_cases hr2 : q.right
    · exact unlike_yes p q w ho hd ho2 hd2 hb hb2 hr hr2
    · exact unlike_no2 p q w ho hd ho2 hd2 hb hb2 hr hr2
  · by_cases hr2 : q.right
    · exact unlike_no1 p q w ho hd ho2 hd2 hb hb2 hr hr2
    · exact unlike_no p q w ho hd ho2 hd2 hb hb2 hr hr2
end Go.Proofs.Yteahbdnnieaaaaa.Pa
