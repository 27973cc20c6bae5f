/- The statement DiskFused. -/
import Derived.Test.YtcahdjkmegnbfaaDkG
set_option maxRecDepth 100000
set_option linter.unusedVariables false
set_option linter.unusedSimpArgs false
namespace Go.Proofs.Ytcahdjkmegnbfaa.Dk
open Go.RowKit Go.Proofs.Ytcahdjkmegnbfaa.Row

theorem DkL.below {w0 w w' : World} {b N : Nat} {d : Dsk} {G : Nat → Prop} (h : DkL w0 b N d G w) (hb : Below w.heap.size w w') : DkL w0 b N d G w' := (h.own (.of_below hb)).sub fun k hk => .inl hk
/-- What is left of the fuse behind k calls. -/
def fu (K k : Nat) : Int := ((K - k : Nat) : Int)
theorem fu_yes {K k : Nat} (h : k < K) : fu K k ≠ 0 := by unfold fu; omega
theorem fu_no {K k : Nat} (h : ¬ k < K) : fu K k = 0 := by unfold fu; omega
theorem fu_next {K k : Nat} : (if 0 < fu K k then fu K k - 1 else fu K k) = fu K (k + 1) := by unfold fu; split <;> omega
theorem fu_stay {K k : Nat} (h : ¬ k < K) : fu K k = fu K (k + 1) := by unfold fu; omega
theorem Gd.fuseAs {kept : Nat → Bool} {d : Dsk} {u v : Int} {k : Nat} {F : Nat → Array Value} (h : Gd kept d u k F) (e : u = v) : Gd kept d v k F := e ▸ h
theorem seen_readD (d : Dsk) (i j : Int) : (d.readD i).seen j = d.seen j := by unfold Dsk.readD; split <;> rfl
/-- What stands while acts are done under a fuse. -/
def FuS (w : World) (b K k : Nat) (w' : World) : Prop := ∃ (d : Dsk) (L : Nat) (F : Nat → Array Value), DkL w b (3 * k) d (fun _ => False) w' ∧ Gd allB d (fu K k) L F

set_option maxHeartbeats 8000000 in
theorem fused_yes (w : World) (m : Int) (hm : 0 ≤ m ∧ m ≤ 255) (a : Option Addr) (n c : Nat) (A : Nat → Ac) (h : SlA w a n c A) (hok : ∀ i, i < n → AcOk (A i)) :
    Calls Try.prog 5 #[.int .u8 m, .slice a n c] w fun e w' => e = .returned (.bool true) ∧ Below w.heap.size w w' := by
  have hz2 := zero_page
  have PZ := Lib.hid pag_z
  have HA := Lib.hid h
  have HOK := Lib.hid hok
  clear h hok
  obtain ⟨m0, m1⟩ := hm
  go_enter Try.func5, Try.ntmps5
  go_wp2_with fail
  refine (awake_as w).mono ?_
  rintro e w1 ⟨rfl, hb1⟩
  have HB1 := Lib.hid hb1
  clear hb1
  go_wp2_with fail
  refine (few_as w1 a n c A (HA.out.below HB1.out)).mono ?_
  rintro e w1 ⟨bb, rfl, rfl, hbb⟩
  cases bb
  · clear hbb
    go_wp2_with fail
    refine (awake_as _).mono ?_
    rintro e w2 ⟨rfl, hb2⟩
    have HB2 := Lib.hid (below_trans HB1.out hb2 HB1.out.size)
    clear hb2
    go_wp2_with fail
    go_ret
    exact ⟨rfl, HB2.out⟩
  have hn := (hbb rfl).1
  clear hbb
  go_wp2_with fail
  refine (new_L (w0 := w) (w := w1) (G := fun _ => False) 8 (by omega) (by omega) HB1.out (fun k h => h.elim)).mono ?_
  rintro e w2 ⟨b, rfl, h2, hk0⟩
  have HD := Lib.hid h2
  clear h2 hk0 HB1
  go_wp2_with fail
  obtain ⟨K, hK, hK20⟩ : ∃ K : Nat, m % 20 = (K : Int) ∧ K < 20 := ⟨(m % 20).toNat, by omega, by omega⟩
  rw [hK]
  refine (fuse_L HD.out (K : Int) (wf_nat (by omega))).mono ?_
  rintro e w3 ⟨rfl, hd3, hk3⟩
  have HS := Lib.hid (show FuS w b K 0 w3 from ⟨_, 0, fun _ => zP, hd3, ((Gd.fresh allB).fused (K : Int)).fuseAs (by unfold fu; rw [Nat.sub_zero])⟩)
  clear hd3 hk3 HD
  go_wp2_with fail
  go_loopw [8] (fun i w' => ∃ k : Nat, k ≤ n ∧ i = .int .i64 k ∧ Hid (FuS w b K k w')) (fun i _ => n - (intOf i).toNat)
  case atStart => exact ⟨0, Nat.zero_le _, rfl, HS⟩
  case round =>
    obtain ⟨k, hkn, rfl, HL⟩ := hrel
    clear HS
    obtain ⟨d, L, F, hD, hG⟩ := HL.out
    have HD := Lib.hid hD
    have HG := Lib.hid hG
    clear hD hG HL
    by_cases hk : k < n
    · have k1 : (k : Int) < (n : Int) := by omega
      obtain ⟨lb, lo, o, P, ha, ho, hlb, hP, hV⟩ := SlA.act HA.out HOK.out hk
      subst ha
      have HP := Lib.hid (show Pag P from ⟨_, hP⟩)
      have HAC := Lib.hid hV
      clear hP hV
      obtain ⟨pl, hpl⟩ : ∃ pl, (A k).pl = pl := ⟨_, rfl⟩
      have hop := (HOK.out k hk).1
      obtain ⟨opk, hopk⟩ : ∃ opk, (A k).op = opk := ⟨_, rfl⟩
      rw [hpl] at HAC
      rw [hopk] at HAC hop
      have hop2 := bounds_u8 hop
      clear hpl hopk hop
      obtain ⟨j, hj, hand⟩ := pl_mod pl
      have rx := run_ex (g := lb) (o := lo) (n := n) (c := c) elt_a hk
      rw [ho] at rx
      have c1 := (HAC.out.below HD.out.1).2.1
      go_wp2_with fail
      refine (read_L HD.out (j : Int) (wf_nat (by omega)) (by omega)).mono ?_
      rintro e w1 ⟨rfl, hd1, hk1⟩
      have HG1 := Lib.hid (HG.out.readD (j : Int))
      rw [HG.out.readP hj, HG.out.reach hj]
      have HSE := Lib.hid (seen_readD d j j)
      have HQ := Lib.hid (HD.out.seen j)
      obtain ⟨Q, hQ⟩ : ∃ Q, d.seen (j : Int) = Q := ⟨_, rfl⟩
      rw [hQ] at HSE HQ ⊢
      have HD1v := Lib.hid (hd1.var Q)
      clear hd1 hk1 HD HG c1 hQ
      generalize d.readD (j : Int) = d1 at HG1 HSE HD1v
      have HN1 := Lib.hid HG1.out.n
      go_wp2_with (refine wpList_store_row rfl 36 _ _ rfl w1.heap.size Q rfl rfl _ _ (heap_alloc_new _ _) (info_pag HQ.out) (by rw [HQ.out.size]; exact pag_z.size) HQ.out.one ?_; rw [World.setRow_alloc_new])
      revert HD1v
      generalize Plus _ w1.heap.size = G1
      generalize w1.heap.size = g1
      generalize World.alloc _ _ = W1
      intro HD1v
      have HD1 := Lib.hid HD1v.out.1
      have V1 := Lib.hid HD1v.out.2
      clear HD1v
      refine (loose_L HD1.out).mono ?_
      rintro e W1 ⟨rfl, rfl⟩
      rw [HN1.out]
      have c0 := (HAC.out.below HD1.out.1).1
      by_cases hpar : opk % 2 = 0
      · by_cases hkK : k < K
        · have hu := fu_yes hkK
          have hkK' : (k : Int) < (K : Int) := by omega
          go_wp2_with fail
          refine (sync_L HD1.out (by omega)).mono ?_
          rintro e w2 ⟨rfl, hd2, hk2⟩
          rw [HG1.out.syncE, if_neg hu]
          have HG2 := Lib.hid (HG1.out.syncD allB hu)
          have HD2 := Lib.hid hd2
          have V2 := Lib.hid (V1.out.kp hk2)
          clear hd2 hk2 HD1 V1 HG1
          generalize d1.syncD = d2 at HD2 HG2
          have HQ2 := Lib.hid (HD2.out.seen j)
          have c2 := (HAC.out.below HD2.out.1).2.1
          go_wp2_with fail
          refine (read_L HD2.out (j : Int) (wf_nat (by omega)) (by omega)).mono ?_
          rintro e w3 ⟨rfl, hd3, hk3⟩
          have HG3 := Lib.hid (HG2.out.readD (j : Int))
          rw [HG2.out.readP hj, HG2.out.reach hj]
          have HD3 := Lib.hid (hd3.var (d2.seen j))
          have V3 := Lib.hid ((V2.out.kp hk3).alloc (.cells (d2.seen j) 36))
          clear hd3 hk3 HD2 V2 HG2
          go_wp2_with (refine wpList_store_row rfl 36 _ _ rfl w3.heap.size (d2.seen j) rfl rfl _ _ (heap_alloc_new _ _) (info_pag HQ2.out) (by rw [HQ2.out.size]; exact pag_z.size) HQ2.out.one ?_; rw [World.setRow_alloc_new])
          have HX := Lib.hid (show FuS w b K (k + 1) (w3.alloc (.cells (d2.seen j) 36)) from ⟨_, _, _, HD3.out.1.sub (fun _ h => h.elim) |>.mono (by omega), HG3.out.fuseAs (fu_next)⟩)
          clear HD3 V3 HG3
          go_roundw
          case rel => exact ⟨k + 1, by omega, by go_num, HX⟩
          case measure => simp [intOf]; omega
        · have hu := fu_no hkK
          have hkK' : ¬ (k : Int) < (K : Int) := by omega
          go_wp2_with fail
          refine (sync_L HD1.out (by omega)).mono ?_
          rintro e w2 ⟨rfl, hd2, hk2⟩
          rw [HG1.out.syncE, if_pos hu]
          rw [HG1.out.sync_no hu] at hd2
          have HG2 := Lib.hid HG1.out
          have HD2 := Lib.hid hd2
          have V2 := Lib.hid (V1.out.kp hk2)
          clear hd2 hk2 HD1 V1 HG1
          have HQ2 := Lib.hid (HD2.out.seen j)
          have c2 := (HAC.out.below HD2.out.1).2.1
          go_wp2_with fail
          refine (read_L HD2.out (j : Int) (wf_nat (by omega)) (by omega)).mono ?_
          rintro e w3 ⟨rfl, hd3, hk3⟩
          have HG3 := Lib.hid (HG2.out.readD (j : Int))
          rw [HG2.out.readP hj, HG2.out.reach hj]
          rw [HSE.out]
          have HD3 := Lib.hid (hd3.var Q)
          have V3 := Lib.hid ((V2.out.kp hk3).alloc (.cells Q 36))
          clear hd3 hk3 HD2 V2 HG2 HQ2
          have HN3 := Lib.hid HG3.out.n
          go_wp2_with (first
            | (refine wpList_store_row rfl 36 _ _ rfl w3.heap.size Q rfl rfl _ _ (heap_alloc_new _ _) (info_pag HQ.out) (by rw [HQ.out.size]; exact pag_z.size) HQ.out.one ?_; rw [World.setRow_alloc_new]
               revert HD3 V3
               generalize Plus _ w3.heap.size = G3
               generalize w3.heap.size = g3
               generalize World.alloc _ _ = W3
               intro HD3 V3)
            | refine wpList_load_range (by rfl) 36 _ rfl g3 0 rfl (At.rng HD3.out.2.2) Try.underlying36 rfl (info_pag HQ.out) ?_
            | refine wpList_load_range (by rfl) 36 _ rfl g1 0 rfl (At.rng V3.out.2) Try.underlying36 rfl (info_pag HQ.out) ?_
            | refine wpList_y (y_neq (b := true) (by rfl) rfl rfl rfl (by kernel_rfl) (same_page HQ.out)) ?_)
          refine (loose_L HD3.out.1).mono ?_
          rintro e w4 ⟨rfl, rfl⟩
          rw [HN3.out]
          go_wp2_with fail
          have HX := Lib.hid (show FuS w b K (k + 1) (w4) from ⟨_, _, _, HD3.out.1.sub (fun _ h => h.elim) |>.mono (by omega), HG3.out.fuseAs (fu_stay hkK)⟩)
          clear HD3 V3 HG3
          go_roundw
          case rel => exact ⟨k + 1, by omega, by go_num, HX⟩
          case measure => simp [intOf]; omega
      · by_cases hkK : k < K
        · have hu := fu_yes hkK
          have hkK' : (k : Int) < (K : Int) := by omega
          have HWE := Lib.hid (show d1.writeE j = 0 by rw [HG1.out.writeE hj, if_neg hu])
          go_wp2_with fail
          refine mf_start (fun w' => Below w.heap.size w w') (fun _ => false) HD1.out.drew.1 fun hS => ?_
          refine mf_yield (i := 0) (d := 64) (.pointer (some ⟨b, 0, none⟩)) rfl rfl (by kernel_rfl) (by kernel_rfl) (by kernel_rfl) (by kernel_rfl) hS (y_run (by rfl) fun _ => by rfl) ?_
          simp only [Act.put, List.setIfInBounds_toArray, List.set_cons_zero, List.set_cons_succ]
          refine mf_yield (i := 1) (d := 65) (.slice ((some ⟨lb, lo, none⟩)) n c) rfl rfl (by kernel_rfl) (by kernel_rfl) (by kernel_rfl) (by kernel_rfl) hS (y_run (by rfl) fun _ => by rfl) ?_
          simp only [Act.put, List.setIfInBounds_toArray, List.set_cons_zero, List.set_cons_succ]
          refine mf_yield (i := 2) (d := 66) (.int .i64 k) rfl rfl (by kernel_rfl) (by kernel_rfl) (by kernel_rfl) (by kernel_rfl) hS (y_run (by rfl) fun _ => by rfl) ?_
          simp only [Act.put, List.setIfInBounds_toArray, List.set_cons_zero, List.set_cons_succ]
          refine mf_yield (i := 3) (d := 67) (.pointer (some ⟨lb, o, none⟩)) rfl rfl (by kernel_rfl) (by kernel_rfl) (by kernel_rfl) (by kernel_rfl) hS (y_ex elt_a (by rfl) rfl rfl rfl rfl hk ho) ?_
          simp only [Act.put, List.setIfInBounds_toArray, List.set_cons_zero, List.set_cons_succ]
          refine mf_yield (i := 4) (d := 68) (.pointer (some ⟨lb, (o + 1), none⟩)) rfl rfl (by kernel_rfl) (by kernel_rfl) (by kernel_rfl) (by kernel_rfl) hS (y_fieldO (by rfl) rfl rfl fld_a1 rfl) ?_
          simp only [Act.put, List.setIfInBounds_toArray, List.set_cons_zero, List.set_cons_succ]
          refine mf_yield (i := 5) (d := 69) (.int .i64 pl) rfl rfl (by kernel_rfl) (by kernel_rfl) (by kernel_rfl) (by kernel_rfl) hS (y_cell1 (by rfl) rfl rfl Try.underlying3 rfl (fun w' h => (HAC.out.below h).2.1)) ?_
          simp only [Act.put, List.setIfInBounds_toArray, List.set_cons_zero, List.set_cons_succ]
          refine mf_yield (i := 6) (d := 70) (.int .i64 j) rfl rfl (by kernel_rfl) (by kernel_rfl) (by kernel_rfl) (by kernel_rfl) hS (y_and (by rfl) rfl rfl rfl hand) ?_
          simp only [Act.put, List.setIfInBounds_toArray, List.set_cons_zero, List.set_cons_succ]
          refine mf_yield (i := 7) (d := 71) (.slice ((some ⟨lb, lo, none⟩)) n c) rfl rfl (by kernel_rfl) (by kernel_rfl) (by kernel_rfl) (by kernel_rfl) hS (y_run (by rfl) fun _ => by rfl) ?_
          simp only [Act.put, List.setIfInBounds_toArray, List.set_cons_zero, List.set_cons_succ]
          refine mf_yield (i := 8) (d := 72) (.int .i64 k) rfl rfl (by kernel_rfl) (by kernel_rfl) (by kernel_rfl) (by kernel_rfl) hS (y_run (by rfl) fun _ => by rfl) ?_
          simp only [Act.put, List.setIfInBounds_toArray, List.set_cons_zero, List.set_cons_succ]
          refine mf_yield (i := 9) (d := 73) (.pointer (some ⟨lb, o, none⟩)) rfl rfl (by kernel_rfl) (by kernel_rfl) (by kernel_rfl) (by kernel_rfl) hS (y_ex elt_a (by rfl) rfl rfl rfl rfl hk ho) ?_
          simp only [Act.put, List.setIfInBounds_toArray, List.set_cons_zero, List.set_cons_succ]
          refine mf_yield (i := 10) (d := 74) (.pointer (some ⟨lb, (o + 2), none⟩)) rfl rfl (by kernel_rfl) (by kernel_rfl) (by kernel_rfl) (by kernel_rfl) hS (y_fieldO (by rfl) rfl rfl fld_a2 rfl) ?_
          simp only [Act.put, List.setIfInBounds_toArray, List.set_cons_zero, List.set_cons_succ]
          refine mf_yield (i := 11) (d := 75) (.agg P) rfl rfl (by kernel_rfl) (by kernel_rfl) (by kernel_rfl) (by kernel_rfl) hS (y_load_range (by rfl) rfl rfl (fun w' h => (HAC.out.below h).2.2.1) Try.underlying36 rfl (info_pag HP.out)) ?_
          simp only [Act.put, List.setIfInBounds_toArray, List.set_cons_zero, List.set_cons_succ]
          refine mf_ready [12] (by kernel_rfl) (by simp) (af_call (i := 12) (d := 76) (R := fun v w' => v = .int .i64 0 ∧ DkL w b _ _ G1 w' ∧ Kp G1 _ w') #[.pointer (some ⟨b, 0, none⟩), .int .i64 j, .agg P] rfl rfl (by rfl) rfl enter_write (by kernel_rfl) ((write_L HD1.out.drew (j : Int) P HP.out (wf_nat (by omega)) (by omega)).mono fun e w' h => ⟨.int .i64 0, by rw [h.1, HWE.out], rfl, h.2⟩) (fun v w' h => h.2.1.1) ?_ AllReadyF.nil)
          rintro v w2 ⟨rfl, hd2, hk2⟩ hS2
          simp only [Act.put, List.setIfInBounds_toArray, List.set_cons_zero, List.set_cons_succ]
          refine mf_yield (i := 13) (d := 12) (.int .i64 0) rfl rfl (by kernel_rfl) (by kernel_rfl) (by kernel_rfl) (by kernel_rfl) hS2 (y_run (by rfl) fun _ => by rfl) ?_
          simp only [Act.put, List.setIfInBounds_toArray, List.set_cons_zero, List.set_cons_succ]
          refine mf_done (by kernel_rfl) ?_
          have HG2 := Lib.hid (HG1.out.writeD hj P hu)
          have HD2 := Lib.hid hd2
          have V2 := Lib.hid (V1.out.kp hk2)
          clear hS hS2 hd2 hk2 HD1 V1 HG1 HWE
          generalize d1.writeD (j : Int) P = d2 at HD2 HG2
          have HQ2 := Lib.hid (HD2.out.seen j)
          have c2 := (HAC.out.below HD2.out.1).2.1
          go_wp2_with fail
          refine (read_L HD2.out (j : Int) (wf_nat (by omega)) (by omega)).mono ?_
          rintro e w3 ⟨rfl, hd3, hk3⟩
          have HG3 := Lib.hid (HG2.out.readD (j : Int))
          rw [HG2.out.readP hj, HG2.out.reach hj]
          have HD3 := Lib.hid (hd3.var (d2.seen j))
          have V3 := Lib.hid ((V2.out.kp hk3).alloc (.cells (d2.seen j) 36))
          clear hd3 hk3 HD2 V2 HG2
          go_wp2_with (refine wpList_store_row rfl 36 _ _ rfl w3.heap.size (d2.seen j) rfl rfl _ _ (heap_alloc_new _ _) (info_pag HQ2.out) (by rw [HQ2.out.size]; exact pag_z.size) HQ2.out.one ?_; rw [World.setRow_alloc_new])
          have HX := Lib.hid (show FuS w b K (k + 1) (w3.alloc (.cells (d2.seen j) 36)) from ⟨_, _, _, HD3.out.1.sub (fun _ h => h.elim) |>.mono (by omega), HG3.out.fuseAs (fu_next)⟩)
          clear HD3 V3 HG3
          go_roundw
          case rel => exact ⟨k + 1, by omega, by go_num, HX⟩
          case measure => simp [intOf]; omega
        · have hu := fu_no hkK
          have hkK' : ¬ (k : Int) < (K : Int) := by omega
          have HWE := Lib.hid (show d1.writeE j = 6 by rw [HG1.out.writeE hj, if_pos hu])
          go_wp2_with fail
          refine mf_start (fun w' => Below w.heap.size w w') (fun _ => false) HD1.out.drew.1 fun hS => ?_
          refine mf_yield (i := 0) (d := 64) (.pointer (some ⟨b, 0, none⟩)) rfl rfl (by kernel_rfl) (by kernel_rfl) (by kernel_rfl) (by kernel_rfl) hS (y_run (by rfl) fun _ => by rfl) ?_
          simp only [Act.put, List.setIfInBounds_toArray, List.set_cons_zero, List.set_cons_succ]
          refine mf_yield (i := 1) (d := 65) (.slice ((some ⟨lb, lo, none⟩)) n c) rfl rfl (by kernel_rfl) (by kernel_rfl) (by kernel_rfl) (by kernel_rfl) hS (y_run (by rfl) fun _ => by rfl) ?_
          simp only [Act.put, List.setIfInBounds_toArray, List.set_cons_zero, List.set_cons_succ]
          refine mf_yield (i := 2) (d := 66) (.int .i64 k) rfl rfl (by kernel_rfl) (by kernel_rfl) (by kernel_rfl) (by kernel_rfl) hS (y_run (by rfl) fun _ => by rfl) ?_
          simp only [Act.put, List.setIfInBounds_toArray, List.set_cons_zero, List.set_cons_succ]
          refine mf_yield (i := 3) (d := 67) (.pointer (some ⟨lb, o, none⟩)) rfl rfl (by kernel_rfl) (by kernel_rfl) (by kernel_rfl) (by kernel_rfl) hS (y_ex elt_a (by rfl) rfl rfl rfl rfl hk ho) ?_
          simp only [Act.put, List.setIfInBounds_toArray, List.set_cons_zero, List.set_cons_succ]
          refine mf_yield (i := 4) (d := 68) (.pointer (some ⟨lb, (o + 1), none⟩)) rfl rfl (by kernel_rfl) (by kernel_rfl) (by kernel_rfl) (by kernel_rfl) hS (y_fieldO (by rfl) rfl rfl fld_a1 rfl) ?_
          simp only [Act.put, List.setIfInBounds_toArray, List.set_cons_zero, List.set_cons_succ]
          refine mf_yield (i := 5) (d := 69) (.int .i64 pl) rfl rfl (by kernel_rfl) (by kernel_rfl) (by kernel_rfl) (by kernel_rfl) hS (y_cell1 (by rfl) rfl rfl Try.underlying3 rfl (fun w' h => (HAC.out.below h).2.1)) ?_
          simp only [Act.put, List.setIfInBounds_toArray, List.set_cons_zero, List.set_cons_succ]
          refine mf_yield (i := 6) (d := 70) (.int .i64 j) rfl rfl (by kernel_rfl) (by kernel_rfl) (by kernel_rfl) (by kernel_rfl) hS (y_and (by rfl) rfl rfl rfl hand) ?_
          simp only [Act.put, List.setIfInBounds_toArray, List.set_cons_zero, List.set_cons_succ]
          refine mf_yield (i := 7) (d := 71) (.slice ((some ⟨lb, lo, none⟩)) n c) rfl rfl (by kernel_rfl) (by kernel_rfl) (by kernel_rfl) (by kernel_rfl) hS (y_run (by rfl) fun _ => by rfl) ?_
          simp only [Act.put, List.setIfInBounds_toArray, List.set_cons_zero, List.set_cons_succ]
          refine mf_yield (i := 8) (d := 72) (.int .i64 k) rfl rfl (by kernel_rfl) (by kernel_rfl) (by kernel_rfl) (by kernel_rfl) hS (y_run (by rfl) fun _ => by rfl) ?_
          simp only [Act.put, List.setIfInBounds_toArray, List.set_cons_zero, List.set_cons_succ]
          refine mf_yield (i := 9) (d := 73) (.pointer (some ⟨lb, o, none⟩)) rfl rfl (by kernel_rfl) (by kernel_rfl) (by kernel_rfl) (by kernel_rfl) hS (y_ex elt_a (by rfl) rfl rfl rfl rfl hk ho) ?_
          simp only [Act.put, List.setIfInBounds_toArray, List.set_cons_zero, List.set_cons_succ]
          refine mf_yield (i := 10) (d := 74) (.pointer (some ⟨lb, (o + 2), none⟩)) rfl rfl (by kernel_rfl) (by kernel_rfl) (by kernel_rfl) (by kernel_rfl) hS (y_fieldO (by rfl) rfl rfl fld_a2 rfl) ?_
          simp only [Act.put, List.setIfInBounds_toArray, List.set_cons_zero, List.set_cons_succ]
          refine mf_yield (i := 11) (d := 75) (.agg P) rfl rfl (by kernel_rfl) (by kernel_rfl) (by kernel_rfl) (by kernel_rfl) hS (y_load_range (by rfl) rfl rfl (fun w' h => (HAC.out.below h).2.2.1) Try.underlying36 rfl (info_pag HP.out)) ?_
          simp only [Act.put, List.setIfInBounds_toArray, List.set_cons_zero, List.set_cons_succ]
          refine mf_ready [12] (by kernel_rfl) (by simp) (af_call (i := 12) (d := 76) (R := fun v w' => v = .int .i64 6 ∧ DkL w b _ _ G1 w' ∧ Kp G1 _ w') #[.pointer (some ⟨b, 0, none⟩), .int .i64 j, .agg P] rfl rfl (by rfl) rfl enter_write (by kernel_rfl) ((write_L HD1.out.drew (j : Int) P HP.out (wf_nat (by omega)) (by omega)).mono fun e w' h => ⟨.int .i64 6, by rw [h.1, HWE.out], rfl, h.2⟩) (fun v w' h => h.2.1.1) ?_ AllReadyF.nil)
          rintro v w2 ⟨rfl, hd2, hk2⟩ hS2
          simp only [Act.put, List.setIfInBounds_toArray, List.set_cons_zero, List.set_cons_succ]
          refine mf_yield (i := 13) (d := 12) (.int .i64 6) rfl rfl (by kernel_rfl) (by kernel_rfl) (by kernel_rfl) (by kernel_rfl) hS2 (y_run (by rfl) fun _ => by rfl) ?_
          simp only [Act.put, List.setIfInBounds_toArray, List.set_cons_zero, List.set_cons_succ]
          refine mf_done (by kernel_rfl) ?_
          rw [HG1.out.write_no hj P hu] at hd2
          have HG2 := Lib.hid HG1.out
          have HD2 := Lib.hid hd2
          have V2 := Lib.hid (V1.out.kp hk2)
          clear hS hS2 hd2 hk2 HD1 V1 HG1 HWE
          have HQ2 := Lib.hid (HD2.out.seen j)
          have c2 := (HAC.out.below HD2.out.1).2.1
          go_wp2_with fail
          refine (read_L HD2.out (j : Int) (wf_nat (by omega)) (by omega)).mono ?_
          rintro e w3 ⟨rfl, hd3, hk3⟩
          have HG3 := Lib.hid (HG2.out.readD (j : Int))
          rw [HG2.out.readP hj, HG2.out.reach hj]
          rw [HSE.out]
          have HD3 := Lib.hid (hd3.var Q)
          have V3 := Lib.hid ((V2.out.kp hk3).alloc (.cells Q 36))
          clear hd3 hk3 HD2 V2 HG2 HQ2
          have HN3 := Lib.hid HG3.out.n
          go_wp2_with (first
            | (refine wpList_store_row rfl 36 _ _ rfl w3.heap.size Q rfl rfl _ _ (heap_alloc_new _ _) (info_pag HQ.out) (by rw [HQ.out.size]; exact pag_z.size) HQ.out.one ?_; rw [World.setRow_alloc_new]
               revert HD3 V3
               generalize Plus _ w3.heap.size = G3
               generalize w3.heap.size = g3
               generalize World.alloc _ _ = W3
               intro HD3 V3)
            | refine wpList_load_range (by rfl) 36 _ rfl g3 0 rfl (At.rng HD3.out.2.2) Try.underlying36 rfl (info_pag HQ.out) ?_
            | refine wpList_load_range (by rfl) 36 _ rfl g1 0 rfl (At.rng V3.out.2) Try.underlying36 rfl (info_pag HQ.out) ?_
            | refine wpList_y (y_neq (b := true) (by rfl) rfl rfl rfl (by kernel_rfl) (same_page HQ.out)) ?_)
          refine (loose_L HD3.out.1).mono ?_
          rintro e w4 ⟨rfl, rfl⟩
          rw [HN3.out]
          go_wp2_with fail
          have HX := Lib.hid (show FuS w b K (k + 1) (w4) from ⟨_, _, _, HD3.out.1.sub (fun _ h => h.elim) |>.mono (by omega), HG3.out.fuseAs (fu_stay hkK)⟩)
          clear HD3 V3 HG3
          go_roundw
          case rel => exact ⟨k + 1, by omega, by go_num, HX⟩
          case measure => simp [intOf]; omega
    · have k1 : ¬ (k : Int) < (n : Int) := by omega
      have wm5 : (Lit.int .i64 (-5)).wf = true := by decide
      go_wp2_with fail
      refine (fuse_L HD.out (-5) wm5).mono ?_
      rintro e w1 ⟨rfl, hd1, hk1⟩
      have HD1 := Lib.hid hd1
      have HG1 := Lib.hid (HG.out.fused (-5))
      have HSY := Lib.hid (HG1.out.syncE)
      clear hd1 hk1 HD HG
      generalize d.fused (-5) = d1 at HD1 HG1 HSY
      go_wp2_with fail
      refine (nil_read w1 0).mono ?_
      rintro e w2 ⟨rfl, hb⟩
      have HD2 := Lib.hid ((HD1.out.below hb).alloc (.cells zP 36))
      clear hb HD1
      go_wp2_with (refine wpList_store_row rfl 36 _ _ rfl w2.heap.size zP rfl rfl _ _ (heap_alloc_new _ _) (info_pag pag_z) rfl pag_z.one ?_; rw [World.setRow_alloc_new])
      revert HD2
      generalize Plus _ w2.heap.size = G2
      generalize World.alloc _ _ = W2
      intro HD2
      refine (nil_crash W2 none 0 0).mono ?_
      rintro e w3 ⟨rfl, hb⟩
      have HD3 := Lib.hid (HD2.out.below hb)
      clear hb HD2
      go_wp2_with fail
      refine (nil_up w3).mono ?_
      rintro e w4 ⟨rfl, hb⟩
      have HD4 := Lib.hid (HD3.out.below hb)
      clear hb HD3
      go_wp2_with fail
      refine (nil_fuse w4 1).mono ?_
      rintro e w5 ⟨rfl, hb⟩
      have HD5 := Lib.hid (HD4.out.below hb)
      clear hb HD4
      go_wp2_with fail
      refine (sync_L HD5.out (by omega)).mono ?_
      rintro e w6 ⟨rfl, hd6, hk6⟩
      rw [HSY.out, if_neg (by omega)]
      have HB6 := Lib.hid hd6.1
      clear hd6 hk6 HD5 HG1 HSY
      go_wp2_with (refine wpList_build_parts (by rfl) 36 [] rfl _ rfl built_z ?_)
      refine (nil_write w6 0 zP).mono ?_
      rintro e w7 ⟨rfl, hb⟩
      have HB7 := Lib.hid (below_trans HB6.out hb HB6.out.size)
      clear hb HB6
      go_wp2_with fail
      refine (nil_sync w7).mono ?_
      rintro e w8 ⟨rfl, hb⟩
      have HB8 := Lib.hid (below_trans HB7.out hb HB7.out.size)
      clear hb HB7
      go_wp2_with fail
      refine (nil_size w8).mono ?_
      rintro e w9 ⟨rfl, hb⟩
      have HB9 := Lib.hid (below_trans HB8.out hb HB8.out.size)
      clear hb HB8
      go_wp2_with fail
      refine (nil_loose w9).mono ?_
      rintro e w10 ⟨rfl, hb⟩
      have HB10 := Lib.hid (below_trans HB9.out hb HB9.out.size)
      clear hb HB9
      go_wp2_with fail
      refine (nil_reads w10 0).mono ?_
      rintro e w11 ⟨rfl, hb⟩
      have HB11 := Lib.hid (below_trans HB10.out hb HB10.out.size)
      clear hb HB10
      go_wp2_with fail
      go_ret
      exact ⟨rfl, HB11.out⟩
end Go.Proofs.Ytcahdjkmegnbfaa.Dk
