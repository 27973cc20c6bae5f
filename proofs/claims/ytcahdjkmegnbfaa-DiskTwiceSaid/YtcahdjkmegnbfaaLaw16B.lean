/- The statement DiskTwice. -/
import Derived.Test.YtcahdjkmegnbfaaDkG
set_option maxRecDepth 100000
set_option linter.unusedVariables false
set_option linter.unusedSimpArgs false
namespace Go.Proofs.Ytcahdjkmegnbfaa.Dk
open Go.RowKit Go.Proofs.Ytcahdjkmegnbfaa.Row

/-- What stands while acts are written: the disk alone. -/
def TwS (w : World) (b k : Nat) (kept : Nat → Bool) (w' : World) : Prop := ∃ (d : Dsk) (F : Nat → Array Value), DkL w b k d (fun _ => False) w' ∧ Gd kept d (-1) k F

set_option maxHeartbeats 4000000 in
theorem twice_yes (w : World) (a : Option Addr) (n c : Nat) (A : Nat → Ac) (h : SlA w a n c A) (hok : ∀ i, i < n → AcOk (A i)) (a1 : Option Addr) (n1 c1 : Nat) (t1 : Nat → Bool) (h1 : SlB w a1 n1 c1 t1) (a2 : Option Addr) (n2 c2 : Nat) (t2 : Nat → Bool) (h2 : SlB w a2 n2 c2 t2) :
    Calls Try.prog 6 #[.slice a n c, .slice a1 n1 c1, .slice a2 n2 c2] w fun e w' => e = .returned (.bool true) ∧ Below w.heap.size w w' := by
  have hz := zero_8
  have hz2 := zero_page
  have HA := Lib.hid h
  have HOK := Lib.hid hok
  have HK1 := Lib.hid h1
  have HK2 := Lib.hid h2
  clear h hok h1 h2
  go_enter Try.func6, Try.ntmps6
  go_wp2_with fail
  refine (awake_as w).mono ?_
  rintro e w1 ⟨rfl, hb1⟩
  have HB1 := Lib.hid hb1
  clear hb1
  go_wp2_with fail
  refine (few_as w1 a n c A (HA.out.below HB1.out)).mono ?_
  rintro e w1 ⟨bb, rfl, rfl, hbb⟩
  cases bb
  · clear hbb
    go_wp2_with fail
    refine (awake_as _).mono ?_
    rintro e w2 ⟨rfl, hb2⟩
    have HB2 := Lib.hid (below_trans HB1.out hb2 HB1.out.size)
    clear hb2
    go_wp2_with fail
    go_ret
    exact ⟨rfl, HB2.out⟩
  have hn := (hbb rfl).1
  clear hbb
  rcases Nat.lt_or_ge 200 n1 with q1 | q1
  · have q1' : (200 : Int) < (n1 : Int) := by omega
    go_wp2_with fail
    refine (awake_as _).mono ?_
    rintro e w2 ⟨rfl, hb2⟩
    have HB2 := Lib.hid (below_trans HB1.out hb2 HB1.out.size)
    clear hb2
    go_wp2_with fail
    go_ret
    exact ⟨rfl, HB2.out⟩
  rcases Nat.lt_or_ge 200 n2 with q2 | q2
  · have q1' : ¬ (200 : Int) < (n1 : Int) := by omega
    have q2' : (200 : Int) < (n2 : Int) := by omega
    go_wp2_with fail
    refine (awake_as _).mono ?_
    rintro e w2 ⟨rfl, hb2⟩
    have HB2 := Lib.hid (below_trans HB1.out hb2 HB1.out.size)
    clear hb2
    go_wp2_with fail
    go_ret
    exact ⟨rfl, HB2.out⟩
  have q1' : ¬ (200 : Int) < (n1 : Int) := by omega
  have q2' : ¬ (200 : Int) < (n2 : Int) := by omega
  go_wp2_with fail
  refine (new_L (w0 := w) (w := w1) (G := fun _ => False) 8 (by omega) (by omega) HB1.out (fun k h => h.elim)).mono ?_
  rintro e w2 ⟨b, rfl, h2, hk0⟩
  have HS := Lib.hid (show TwS w b 0 (keepB n1 t1) w2 from ⟨fresh zP 8, fun _ => zP, h2, Gd.fresh _⟩)
  clear h2 hk0 HB1
  go_wp2_with fail
  clear w1
  go_loopw [9] (fun i w' => ∃ k : Nat, k ≤ n ∧ i = .int .i64 k ∧ Hid (TwS w b k (keepB n1 t1) w')) (fun i _ => n - (intOf i).toNat)
  case atStart => exact ⟨0, Nat.zero_le _, rfl, HS⟩
  case round =>
    obtain ⟨k, hkn, rfl, HL⟩ := hrel
    clear HS
    obtain ⟨d, F, hD, hG⟩ := HL.out
    have HD := Lib.hid hD
    have HG := Lib.hid hG
    clear hD hG HL
    by_cases hk : k < n
    · have k1 : (k : Int) < (n : Int) := by omega
      obtain ⟨lb, lo, o, P, ha, ho, hlb, hP, hV⟩ := SlA.act HA.out HOK.out hk
      subst ha
      have HP := Lib.hid (show Pag P from ⟨_, hP⟩)
      have HAC := Lib.hid hV
      clear hP hV
      obtain ⟨pl, hpl⟩ : ∃ pl, (A k).pl = pl := ⟨_, rfl⟩
      rw [hpl] at HAC
      clear hpl
      obtain ⟨j, hj, hand⟩ := pl_mod pl
      have HWE := Lib.hid (show d.writeE j = 0 by rw [HG.out.writeE hj, if_neg (by omega)])
      go_wp2_with fail
      refine mf_start (fun w' => Below w.heap.size w w') (fun _ => false) HD.out.drew.1 fun hS => ?_
      refine mf_yield (i := 0) (d := 43) (.pointer (some ⟨b, 0, none⟩)) rfl rfl (by kernel_rfl) (by kernel_rfl) (by kernel_rfl) (by kernel_rfl) hS (y_run (by rfl) fun _ => by rfl) ?_
      simp only [Act.put, List.setIfInBounds_toArray, List.set_cons_zero, List.set_cons_succ]
      refine mf_yield (i := 1) (d := 44) (.slice ((some ⟨lb, lo, none⟩)) n c) rfl rfl (by kernel_rfl) (by kernel_rfl) (by kernel_rfl) (by kernel_rfl) hS (y_run (by rfl) fun _ => by rfl) ?_
      simp only [Act.put, List.setIfInBounds_toArray, List.set_cons_zero, List.set_cons_succ]
      refine mf_yield (i := 2) (d := 45) (.int .i64 k) rfl rfl (by kernel_rfl) (by kernel_rfl) (by kernel_rfl) (by kernel_rfl) hS (y_run (by rfl) fun _ => by rfl) ?_
      simp only [Act.put, List.setIfInBounds_toArray, List.set_cons_zero, List.set_cons_succ]
      refine mf_yield (i := 3) (d := 46) (.pointer (some ⟨lb, o, none⟩)) rfl rfl (by kernel_rfl) (by kernel_rfl) (by kernel_rfl) (by kernel_rfl) hS (y_ex elt_a (by rfl) rfl rfl rfl rfl hk ho) ?_
      simp only [Act.put, List.setIfInBounds_toArray, List.set_cons_zero, List.set_cons_succ]
      refine mf_yield (i := 4) (d := 47) (.pointer (some ⟨lb, (o + 1), none⟩)) rfl rfl (by kernel_rfl) (by kernel_rfl) (by kernel_rfl) (by kernel_rfl) hS (y_fieldO (by rfl) rfl rfl fld_a1 rfl) ?_
      simp only [Act.put, List.setIfInBounds_toArray, List.set_cons_zero, List.set_cons_succ]
      refine mf_yield (i := 5) (d := 48) (.int .i64 pl) rfl rfl (by kernel_rfl) (by kernel_rfl) (by kernel_rfl) (by kernel_rfl) hS (y_cell1 (by rfl) rfl rfl Try.underlying3 rfl (fun w' h => (HAC.out.below h).2.1)) ?_
      simp only [Act.put, List.setIfInBounds_toArray, List.set_cons_zero, List.set_cons_succ]
      refine mf_yield (i := 6) (d := 49) (.int .i64 j) rfl rfl (by kernel_rfl) (by kernel_rfl) (by kernel_rfl) (by kernel_rfl) hS (y_and (by rfl) rfl rfl rfl hand) ?_
      simp only [Act.put, List.setIfInBounds_toArray, List.set_cons_zero, List.set_cons_succ]
      refine mf_yield (i := 7) (d := 50) (.slice ((some ⟨lb, lo, none⟩)) n c) rfl rfl (by kernel_rfl) (by kernel_rfl) (by kernel_rfl) (by kernel_rfl) hS (y_run (by rfl) fun _ => by rfl) ?_
      simp only [Act.put, List.setIfInBounds_toArray, List.set_cons_zero, List.set_cons_succ]
      refine mf_yield (i := 8) (d := 51) (.int .i64 k) rfl rfl (by kernel_rfl) (by kernel_rfl) (by kernel_rfl) (by kernel_rfl) hS (y_run (by rfl) fun _ => by rfl) ?_
      simp only [Act.put, List.setIfInBounds_toArray, List.set_cons_zero, List.set_cons_succ]
      refine mf_yield (i := 9) (d := 52) (.pointer (some ⟨lb, o, none⟩)) rfl rfl (by kernel_rfl) (by kernel_rfl) (by kernel_rfl) (by kernel_rfl) hS (y_ex elt_a (by rfl) rfl rfl rfl rfl hk ho) ?_
      simp only [Act.put, List.setIfInBounds_toArray, List.set_cons_zero, List.set_cons_succ]
      refine mf_yield (i := 10) (d := 53) (.pointer (some ⟨lb, (o + 2), none⟩)) rfl rfl (by kernel_rfl) (by kernel_rfl) (by kernel_rfl) (by kernel_rfl) hS (y_fieldO (by rfl) rfl rfl fld_a2 rfl) ?_
      simp only [Act.put, List.setIfInBounds_toArray, List.set_cons_zero, List.set_cons_succ]
      refine mf_yield (i := 11) (d := 54) (.agg P) rfl rfl (by kernel_rfl) (by kernel_rfl) (by kernel_rfl) (by kernel_rfl) hS (y_load_range (by rfl) rfl rfl (fun w' h => (HAC.out.below h).2.2.1) Try.underlying36 rfl (info_pag HP.out)) ?_
      simp only [Act.put, List.setIfInBounds_toArray, List.set_cons_zero, List.set_cons_succ]
      refine mf_ready [12] (by kernel_rfl) (by simp) (af_call (i := 12) (d := 55) (R := fun v w' => v = .int .i64 0 ∧ DkL w b _ _ (fun _ => False) w' ∧ Kp (fun _ => False) wr w') #[.pointer (some ⟨b, 0, none⟩), .int .i64 j, .agg P] rfl rfl (by rfl) rfl enter_write (by kernel_rfl) ((write_L HD.out.drew (j : Int) P HP.out (wf_nat (by omega)) (by omega)).mono fun e w' h => ⟨.int .i64 0, by rw [h.1, HWE.out], rfl, h.2⟩) (fun v w' h => h.2.1.1) ?_ AllReadyF.nil)
      rintro v w2 ⟨rfl, hd2, hk2⟩ hS2
      simp only [Act.put, List.setIfInBounds_toArray, List.set_cons_zero, List.set_cons_succ]
      refine mf_done (by kernel_rfl) ?_
      have HX := Lib.hid (show TwS w b (k + 1) (keepB n1 t1) w2 from ⟨_, _, hd2, HG.out.writeD hj P (by omega)⟩)
      clear hS hS2 hd2 hk2 HD HG HWE
      go_wp2_with fail
      go_roundw
      case rel => exact ⟨k + 1, by omega, by go_num, HX⟩
      case measure => simp [intOf]; omega
    · obtain rfl : k = n := by omega
      have k1 : ¬ (k : Int) < (k : Int) := by omega
      clear hk
      go_wp2_with fail
      refine (crash_L HD.out (by omega) a1 n1 c1 t1 (HK1.out.below HD.out.1) (fun hn b o e => .inl (SlB.lt HK1.out hn b o e))).mono ?_
      rintro e w2 ⟨rfl, hd2, hk2⟩
      have HD2 := Lib.hid hd2
      clear hd2 hk2 HD
      go_wp2_with fail
      refine (up_L HD2.out).mono ?_
      rintro e w3 ⟨rfl, hd3, hk3⟩
      have HS := Lib.hid (show RdS w b w3.heap.size k F (upTo F 0) (w3.alloc (.cells z8 52)) from ⟨_, _, hd3.alloc _, (Pgs.new w3).ext fun j _ => by unfold upTo; rw [if_neg (by omega)], HG.out.crash allB⟩)
      clear hd3 hk3 HD2 HG
      go_wp2_with fail
      revert HS
      generalize w3.heap.size = g
      generalize World.alloc _ _ = W3
      intro HS
      go_loopw [11] (fun i w' => ∃ j : Nat, j ≤ 8 ∧ i = .int .i64 j ∧ Hid (RdS w b g (k + j) F (upTo F j) w')) (fun i _ => 8 - (intOf i).toNat)
      case atStart => exact ⟨0, Nat.zero_le _, rfl, HS⟩
      case round =>
        obtain ⟨j, hj8, rfl, HR⟩ := hrel
        clear HS
        obtain ⟨G, d, hD, hPG, hG⟩ := HR.out
        have HD := Lib.hid hD
        have HPG := Lib.hid hPG
        have HG := Lib.hid hG
        clear hD hPG hG HR
        by_cases hj : j < 8
        · have j1 : (j : Int) < 8 := by omega
          have rx := run_ax (g := g) (o := 0) Try.underlying52 info_page hj
          rw [Nat.zero_add] at rx
          have HP := Lib.hid (show Pag (F j) by rw [← HG.out.seen hj]; exact HD.out.seen j)
          go_wp2_with fail
          refine (read_L HD.out (j : Int) (wf_nat (by omega)) (by omega)).mono ?_
          rintro e w5 ⟨rfl, hd5, hk5⟩
          have HG5 := Lib.hid (HG.out.readD (j : Int))
          rw [HG.out.readP hj, HG.out.seen hj, HG.out.reach hj]
          have HD5 := Lib.hid hd5
          have HPG5 := Lib.hid (HPG.out.kp hk5)
          clear hd5 hk5 HD HPG HG
          obtain ⟨C, hC, hPC⟩ := HPG5.out.stored hj HP.out
          have HC := Lib.hid hC
          have HX := Lib.hid (show RdS w b g (k + (j + 1)) F (upTo F (j + 1)) (w5.setRow g C) from ⟨G, _, HD5.out.setRow HPG5.out.1 C, by rw [← upd_upTo]; exact hPC, HG5.out⟩)
          have HT := Lib.hid (show w5.there g (j * 64) (F j).size by rw [HP.out.size]; exact HPG5.out.there hj)
          clear hC hPC HD5 HPG5 HG5
          go_wp2_with (refine wpList_store_mid rfl 36 _ _ rfl g (j * 64) (F j) rfl rfl HT.out (info_pag HP.out) HP.out.one ?_; rw [HC.out])
          go_roundw
          case rel => exact ⟨j + 1, by omega, by go_num, HX⟩
          case measure => simp [intOf]; omega
        · obtain rfl : j = 8 := by omega
          clear hj hj8
          go_wp2_with fail
          refine (crash_L HD.out (by omega) a2 n2 c2 t2 (HK2.out.below HD.out.1) (fun hn b o e => .inl (SlB.lt HK2.out hn b o e))).mono ?_
          rintro e w2 ⟨rfl, hd2, hk2⟩
          have HD2 := Lib.hid hd2
          have HPG2 := Lib.hid (HPG.out.kp hk2)
          have HG2 := Lib.hid ((HG.out.as (kept' := keepB n2 t2) fun i hi => absurd hi (Nat.not_lt_zero i)).crash allB)
          clear hd2 hk2 HD HPG HG
          go_wp2_with fail
          refine (up_L HD2.out).mono ?_
          rintro e w3 ⟨rfl, hd3, hk3⟩
          have HS := Lib.hid (show RdS w b g (k + 8 + 0) F F w3 from ⟨G, _, hd3, (HPG2.out.kp hk3).ext fun j hj => by unfold upTo; rw [if_pos hj], HG2.out⟩)
          clear hd3 hk3 HD2 HPG2 HG2
          go_wp2_with fail
          go_loopw [12] (fun i w' => ∃ j : Nat, j ≤ 8 ∧ i = .int .i64 j ∧ Hid (RdS w b g (k + 8 + j) F F w')) (fun i _ => 8 - (intOf i).toNat)
          case atStart => exact ⟨0, Nat.zero_le _, rfl, HS⟩
          case round =>
            obtain ⟨j, hj8, rfl, HR⟩ := hrel
            clear HS
            obtain ⟨G, d, hD, hPG, hG⟩ := HR.out
            have HD := Lib.hid hD
            have HPG := Lib.hid hPG
            have HG := Lib.hid hG
            clear hD hPG hG HR
            by_cases hj : j < 8
            · have j1 : (j : Int) < 8 := by omega
              have HP := Lib.hid (HPG.out.2.2 j hj)
              go_wp2_with fail
              refine (read_L HD.out (j : Int) (wf_nat (by omega)) (by omega)).mono ?_
              rintro e w5 ⟨rfl, hd5, hk5⟩
              have HG5 := Lib.hid (HG.out.readD (j : Int))
              rw [HG.out.readP hj, HG.out.seen hj, HG.out.reach hj]
              have HD5 := Lib.hid (hd5.var (F j))
              have HPG5 := Lib.hid ((HPG.out.kp hk5).alloc (.cells (F j) 36))
              clear hd5 hk5 HD HPG HG
              go_wp2_with (refine wpList_store_row rfl 36 _ _ rfl w5.heap.size (F j) rfl rfl _ _ (heap_alloc_new _ _) (info_pag HP.out) (by rw [HP.out.size]; exact pag_z.size) HP.out.one ?_; rw [World.setRow_alloc_new])
              revert HD5 HPG5
              generalize Plus G w5.heap.size = G5
              generalize w5.heap.size = gp
              generalize World.alloc _ _ = W5
              intro HD5 HPG5
              refine mf_start (fun w' => w'.rangeAt g (j * 64) (F j).toList ∧ At w' gp (F j) 36) (fun _ => false) ⟨HPG5.out.drew.range hj, HD5.out.2.2⟩ fun hS => ?_
              refine mf_yield (i := 0) (d := 88) (.int .i64 0) rfl rfl (by kernel_rfl) (by kernel_rfl) (by kernel_rfl) (by kernel_rfl) hS (y_run (by rfl) fun _ => by rfl) ?_
              simp only [Act.put, List.setIfInBounds_toArray, List.set_cons_zero, List.set_cons_succ]
              refine mf_yield (i := 1) (d := 89) (.bool false) rfl rfl (by kernel_rfl) (by kernel_rfl) (by kernel_rfl) (by kernel_rfl) hS (y_neo (by rfl) rfl rfl rfl rfl) ?_
              simp only [Act.put, List.setIfInBounds_toArray, List.set_cons_zero, List.set_cons_succ]
              refine mf_yield (i := 2) (d := 90) (.bool false) rfl rfl (by kernel_rfl) (by kernel_rfl) (by kernel_rfl) (by kernel_rfl) hS (y_run (by rfl) fun _ => by rfl) ?_
              simp only [Act.put, List.setIfInBounds_toArray, List.set_cons_zero, List.set_cons_succ]
              refine mf_yield (i := 3) (d := 91) (.agg ((F j))) rfl rfl (by kernel_rfl) (by kernel_rfl) (by kernel_rfl) (by kernel_rfl) hS (y_load_range (by rfl) rfl rfl (fun w' h => At.rng h.2) Try.underlying36 rfl (info_pag HP.out)) ?_
              simp only [Act.put, List.setIfInBounds_toArray, List.set_cons_zero, List.set_cons_succ]
              refine mf_yield (i := 4) (d := 92) (.int .i64 j) rfl rfl (by kernel_rfl) (by kernel_rfl) (by kernel_rfl) (by kernel_rfl) hS (y_run (by rfl) fun _ => by rfl) ?_
              simp only [Act.put, List.setIfInBounds_toArray, List.set_cons_zero, List.set_cons_succ]
              refine mf_yield (i := 5) (d := 93) (.pointer (some ⟨g, (j * 64), none⟩)) rfl rfl (by kernel_rfl) (by kernel_rfl) (by kernel_rfl) (by kernel_rfl) hS (y_ax (by rfl) rfl rfl rfl Try.underlying52 info_page rfl hj (Nat.zero_add _)) ?_
              simp only [Act.put, List.setIfInBounds_toArray, List.set_cons_zero, List.set_cons_succ]
              refine mf_yield (i := 6) (d := 94) (.agg ((F j))) rfl rfl (by kernel_rfl) (by kernel_rfl) (by kernel_rfl) (by kernel_rfl) hS (y_load_range (by rfl) rfl rfl (fun w' h => h.1) Try.underlying36 rfl (info_pag HP.out)) ?_
              simp only [Act.put, List.setIfInBounds_toArray, List.set_cons_zero, List.set_cons_succ]
              refine mf_yield (i := 7) (d := 95) (.bool false) rfl rfl (by kernel_rfl) (by kernel_rfl) (by kernel_rfl) (by kernel_rfl) hS (y_neq (b := true) (by rfl) rfl rfl rfl (by kernel_rfl) (same_page HP.out)) ?_
              simp only [Act.put, List.setIfInBounds_toArray, List.set_cons_zero, List.set_cons_succ]
              refine mf_yield (i := 8) (d := 96) (.bool false) rfl rfl (by kernel_rfl) (by kernel_rfl) (by kernel_rfl) (by kernel_rfl) hS (y_run (by rfl) fun _ => by rfl) ?_
              simp only [Act.put, List.setIfInBounds_toArray, List.set_cons_zero, List.set_cons_succ]
              refine mf_done (by kernel_rfl) ?_
              have HX := Lib.hid (show RdS w b g (k + 8 + (j + 1)) F F W5.drew from ⟨G5, _, HD5.out.1.drew, HPG5.out.drew, HG5.out⟩)
              clear hS HD5 HPG5 HG5
              go_wp2_with fail
              go_roundw
              case rel => exact ⟨j + 1, by omega, by go_num, HX⟩
              case measure => simp [intOf]; omega
            · have j1 : ¬ (j : Int) < 8 := by omega
              have HN := Lib.hid HG.out.n
              clear HPG HG
              go_wp2_with fail
              refine (loose_L HD.out).mono ?_
              rintro e w1 ⟨rfl, rfl⟩
              rw [HN.out]
              go_wp2_with fail
              go_ret
              exact ⟨rfl, HD.out.1⟩
end Go.Proofs.Ytcahdjkmegnbfaa.Dk
