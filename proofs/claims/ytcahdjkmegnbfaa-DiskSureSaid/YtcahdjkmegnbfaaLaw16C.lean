/- The statement DiskSure. -/
import Derived.Test.YtcahdjkmegnbfaaDkG
set_option maxRecDepth 100000
set_option linter.unusedVariables false
set_option linter.unusedSimpArgs false
namespace Go.Proofs.Ytcahdjkmegnbfaa.Dk
open Go.RowKit Go.Proofs.Ytcahdjkmegnbfaa.Row

theorem info_8 : (Try.prog.info? 52).map (·.size) = some 512 := by kernel_rfl
/-- Eight pages as one row, laid over eight others. -/
theorem Pgs.copied {G : Nat → Prop} {w : World} {g gm : Nat} {F M : Nat → Array Value} (h : Pgs G w g F) (hm : Pgs G w gm M) :
    ∃ C, At w g C 52 ∧ (∃ old, At w gm old 52 ∧ old.size = C.size) ∧ C.size = 512 ∧ C.all (·.oneCell') = true ∧ Pgs G (w.setRow gm C) gm F := by
  obtain ⟨hg, ⟨hw, hl, ⟨e, _⟩ | ⟨g', cap, C, e, _, h4, _, _, h7, h8⟩⟩, hp⟩ := h
  · cases e
  obtain ⟨hg2, ⟨_, _, ⟨e2, _⟩ | ⟨g2, cap2, C2, e2, _, k4, _, _, k7, _⟩⟩, _⟩ := hm
  · cases e2
  simp only [Value.slice.injEq, Option.some.injEq, Addr.mk.injEq] at e e2
  obtain ⟨⟨rfl, _⟩, _, rfl⟩ := e
  obtain ⟨⟨rfl, _⟩, _, rfl⟩ := e2
  have hs : C.size = 512 := by omega
  have ht : C.toList = elL F 8 := by rw [← h8, List.take_of_length_le (by rw [Array.length_toList]; omega)]
  refine ⟨C, h4, ⟨C2, k4, by omega⟩, hs, ?_, hg2, ⟨hw, hl, .inr ⟨_, 8, C, rfl, Nat.zero_le _, setRow_heap _ _ _ _ _ _ k4, Nat.le_refl _, by unfold maxLen; omega, by omega, ?_⟩⟩, hp⟩
  · refine Array.all_eq_true_iff_forall_mem.2 fun v hv => ?_
    have hv' : v ∈ elL F 8 := by rw [← ht]; simpa using hv
    obtain ⟨q, hq⟩ := List.getElem?_of_mem hv'
    obtain ⟨i, j, hi, hj, rfl, hc⟩ := elL_at (by omega) hw hq
    exact Array.all_eq_true_iff_forall_mem.1 (hw i hi).2 v (Array.mem_of_getElem? hc)
  · rw [ht, List.take_of_length_le (by rw [hl]; omega)]
theorem Pgs.other {G : Nat → Prop} {w : World} {g gm : Nat} {F : Nat → Array Value} (h : Pgs G w g F) (hne : g ≠ gm) (C : Array Value) : Pgs G (w.setRow gm C) g F :=
  ⟨h.1, h.2.1.setRow C fun q hq => by have e : some g = some q := hq; injection e with e; omega, h.2.2⟩

/-- What stands while the first acts are written. -/
def SuS (w : World) (b g gm k : Nat) (w' : World) : Prop :=
  ∃ (G : Nat → Prop) (d : Dsk) (F : Nat → Array Value), DkL w b k d G w' ∧ Pgs G w' g F ∧ Pgs G w' gm (fun _ => zP) ∧ Gd allB d (-1) k F ∧ g ≠ gm
/-- .. while the others are. -/
def SuT (w : World) (b gm n k : Nat) (kept : Nat → Bool) (w' : World) : Prop :=
  ∃ (G : Nat → Prop) (d : Dsk) (M : Nat → Array Value), DkL w b (n + k) d G w' ∧ Pgs G w' gm M ∧ Gd kept d (-1) k M

set_option maxHeartbeats 8000000 in
theorem sure_yes (w : World) (a : Option Addr) (n c : Nat) (A : Nat → Ac) (h : SlA w a n c A) (hok : ∀ i, i < n → AcOk (A i)) (a2 : Option Addr) (n2 c2 : Nat) (A2 : Nat → Ac) (h2 : SlA w a2 n2 c2 A2) (hok2 : ∀ i, i < n2 → AcOk (A2 i)) (ka : Option Addr) (kn kc : Nat) (t : Nat → Bool) (hB : SlB w ka kn kc t) :
    Calls Try.prog 4 #[.slice a n c, .slice a2 n2 c2, .slice ka kn kc] w fun e w' => e = .returned (.bool true) ∧ Below w.heap.size w w' := by
  have hz := zero_8
  have hz2 := zero_page
  have HA := Lib.hid h
  have HOK := Lib.hid hok
  have HA2 := Lib.hid h2
  have HOK2 := Lib.hid hok2
  have HK := Lib.hid hB
  clear h hok h2 hok2 hB
  go_enter Try.func4, Try.ntmps4
  go_wp2_with fail
  refine (awake_as w).mono ?_
  rintro e w1 ⟨rfl, hb1⟩
  have HB1 := Lib.hid hb1
  clear hb1
  go_wp2_with fail
  refine (few_as w1 a n c A (HA.out.below HB1.out)).mono ?_
  rintro e w1 ⟨bb, rfl, rfl, hbb⟩
  cases bb
  · clear hbb
    go_wp2_with fail
    refine (awake_as _).mono ?_
    rintro e w2 ⟨rfl, hb2⟩
    have HB2 := Lib.hid (below_trans HB1.out hb2 HB1.out.size)
    clear hb2
    go_wp2_with fail
    go_ret
    exact ⟨rfl, HB2.out⟩
  have hn := (hbb rfl).1
  clear hbb
  go_wp2_with fail
  refine (few_as w1 a2 n2 c2 A2 (HA2.out.below HB1.out)).mono ?_
  rintro e w1 ⟨bb, rfl, rfl, hbb⟩
  cases bb
  · clear hbb
    go_wp2_with fail
    refine (awake_as _).mono ?_
    rintro e w2 ⟨rfl, hb2⟩
    have HB2 := Lib.hid (below_trans HB1.out hb2 HB1.out.size)
    clear hb2
    go_wp2_with fail
    go_ret
    exact ⟨rfl, HB2.out⟩
  have hn2 := (hbb rfl).1
  clear hbb
  rcases Nat.lt_or_ge 200 kn with q1 | q1
  · have q1' : (200 : Int) < (kn : Int) := by omega
    go_wp2_with fail
    refine (awake_as _).mono ?_
    rintro e w2 ⟨rfl, hb2⟩
    have HB2 := Lib.hid (below_trans HB1.out hb2 HB1.out.size)
    clear hb2
    go_wp2_with fail
    go_ret
    exact ⟨rfl, HB2.out⟩
  have q1' : ¬ (200 : Int) < (kn : Int) := by omega
  go_wp2_with fail
  refine (new_L (w0 := w) (w := w1) (G := fun _ => False) 8 (by omega) (by omega) HB1.out (fun k h => h.elim)).mono ?_
  rintro e w2 ⟨b, rfl, h2, hk0⟩
  have HS := Lib.hid (show SuS w b w2.heap.size (w2.heap.size + 1) 0 ((w2.alloc (.cells z8 52)).alloc (.cells z8 52)) from by
    have hs : (w2.alloc (.cells z8 52)).heap.size = w2.heap.size + 1 := World.size_alloc _ _
    rw [← hs]
    exact ⟨_, fresh zP 8, fun _ => zP, (h2.alloc _).alloc _, (Pgs.new w2).alloc _, Pgs.new _, Gd.fresh allB, by omega⟩)
  clear h2 hk0 HB1
  go_wp2_with fail
  revert HS
  generalize w2.heap.size + 1 = gm
  generalize w2.heap.size = g
  generalize World.alloc _ _ = W3
  intro HS
  clear w1
  go_loopw [11] (fun i w' => ∃ k : Nat, k ≤ n ∧ i = .int .i64 k ∧ Hid (SuS w b g gm k w')) (fun i _ => n - (intOf i).toNat)
  case atStart => exact ⟨0, Nat.zero_le _, rfl, HS⟩
  case round =>
    obtain ⟨k, hkn, rfl, HL⟩ := hrel
    clear HS
    obtain ⟨G, d, F, hD, hPG, hPM, hG, hne⟩ := HL.out
    have HD := Lib.hid hD
    have HPG := Lib.hid hPG
    have HPM := Lib.hid hPM
    have HG := Lib.hid hG
    clear hD hPG hPM hG HL
    by_cases hk : k < n
    · have k1 : (k : Int) < (n : Int) := by omega
      obtain ⟨lb, lo, o, P, ha, ho, hlb, hP, hV⟩ := SlA.act HA.out HOK.out hk
      subst ha
      have HP := Lib.hid (show Pag P from ⟨_, hP⟩)
      have HAC := Lib.hid hV
      clear hP hV
      obtain ⟨pl, hpl⟩ : ∃ pl, (A k).pl = pl := ⟨_, rfl⟩
      rw [hpl] at HAC
      clear hpl
      obtain ⟨j, hj, hand⟩ := pl_mod pl
      have HWE := Lib.hid (show d.writeE j = 0 by rw [HG.out.writeE hj, if_neg (by omega)])
      go_wp2_with fail
      refine mf_start (fun w' => Below w.heap.size w w') (fun _ => false) HD.out.drew.1 fun hS => ?_
      refine mf_yield (i := 0) (d := 46) (.pointer (some ⟨b, 0, none⟩)) rfl rfl (by kernel_rfl) (by kernel_rfl) (by kernel_rfl) (by kernel_rfl) hS (y_run (by rfl) fun _ => by rfl) ?_
      simp only [Act.put, List.setIfInBounds_toArray, List.set_cons_zero, List.set_cons_succ]
      refine mf_yield (i := 1) (d := 47) (.slice ((some ⟨lb, lo, none⟩)) n c) rfl rfl (by kernel_rfl) (by kernel_rfl) (by kernel_rfl) (by kernel_rfl) hS (y_run (by rfl) fun _ => by rfl) ?_
      simp only [Act.put, List.setIfInBounds_toArray, List.set_cons_zero, List.set_cons_succ]
      refine mf_yield (i := 2) (d := 48) (.int .i64 k) rfl rfl (by kernel_rfl) (by kernel_rfl) (by kernel_rfl) (by kernel_rfl) hS (y_run (by rfl) fun _ => by rfl) ?_
      simp only [Act.put, List.setIfInBounds_toArray, List.set_cons_zero, List.set_cons_succ]
      refine mf_yield (i := 3) (d := 49) (.pointer (some ⟨lb, o, none⟩)) rfl rfl (by kernel_rfl) (by kernel_rfl) (by kernel_rfl) (by kernel_rfl) hS (y_ex elt_a (by rfl) rfl rfl rfl rfl hk ho) ?_
      simp only [Act.put, List.setIfInBounds_toArray, List.set_cons_zero, List.set_cons_succ]
      refine mf_yield (i := 4) (d := 50) (.pointer (some ⟨lb, (o + 1), none⟩)) rfl rfl (by kernel_rfl) (by kernel_rfl) (by kernel_rfl) (by kernel_rfl) hS (y_fieldO (by rfl) rfl rfl fld_a1 rfl) ?_
      simp only [Act.put, List.setIfInBounds_toArray, List.set_cons_zero, List.set_cons_succ]
      refine mf_yield (i := 5) (d := 51) (.int .i64 pl) rfl rfl (by kernel_rfl) (by kernel_rfl) (by kernel_rfl) (by kernel_rfl) hS (y_cell1 (by rfl) rfl rfl Try.underlying3 rfl (fun w' h => (HAC.out.below h).2.1)) ?_
      simp only [Act.put, List.setIfInBounds_toArray, List.set_cons_zero, List.set_cons_succ]
      refine mf_yield (i := 6) (d := 52) (.int .i64 j) rfl rfl (by kernel_rfl) (by kernel_rfl) (by kernel_rfl) (by kernel_rfl) hS (y_and (by rfl) rfl rfl rfl hand) ?_
      simp only [Act.put, List.setIfInBounds_toArray, List.set_cons_zero, List.set_cons_succ]
      refine mf_yield (i := 7) (d := 53) (.slice ((some ⟨lb, lo, none⟩)) n c) rfl rfl (by kernel_rfl) (by kernel_rfl) (by kernel_rfl) (by kernel_rfl) hS (y_run (by rfl) fun _ => by rfl) ?_
      simp only [Act.put, List.setIfInBounds_toArray, List.set_cons_zero, List.set_cons_succ]
      refine mf_yield (i := 8) (d := 54) (.int .i64 k) rfl rfl (by kernel_rfl) (by kernel_rfl) (by kernel_rfl) (by kernel_rfl) hS (y_run (by rfl) fun _ => by rfl) ?_
      simp only [Act.put, List.setIfInBounds_toArray, List.set_cons_zero, List.set_cons_succ]
      refine mf_yield (i := 9) (d := 55) (.pointer (some ⟨lb, o, none⟩)) rfl rfl (by kernel_rfl) (by kernel_rfl) (by kernel_rfl) (by kernel_rfl) hS (y_ex elt_a (by rfl) rfl rfl rfl rfl hk ho) ?_
      simp only [Act.put, List.setIfInBounds_toArray, List.set_cons_zero, List.set_cons_succ]
      refine mf_yield (i := 10) (d := 56) (.pointer (some ⟨lb, (o + 2), none⟩)) rfl rfl (by kernel_rfl) (by kernel_rfl) (by kernel_rfl) (by kernel_rfl) hS (y_fieldO (by rfl) rfl rfl fld_a2 rfl) ?_
      simp only [Act.put, List.setIfInBounds_toArray, List.set_cons_zero, List.set_cons_succ]
      refine mf_yield (i := 11) (d := 57) (.agg P) rfl rfl (by kernel_rfl) (by kernel_rfl) (by kernel_rfl) (by kernel_rfl) hS (y_load_range (by rfl) rfl rfl (fun w' h => (HAC.out.below h).2.2.1) Try.underlying36 rfl (info_pag HP.out)) ?_
      simp only [Act.put, List.setIfInBounds_toArray, List.set_cons_zero, List.set_cons_succ]
      refine mf_ready [12] (by kernel_rfl) (by simp) (af_call (i := 12) (d := 58) (R := fun v w' => v = .int .i64 0 ∧ DkL w b _ _ G w' ∧ Kp G wr w') #[.pointer (some ⟨b, 0, none⟩), .int .i64 j, .agg P] rfl rfl (by rfl) rfl enter_write (by kernel_rfl) ((write_L HD.out.drew (j : Int) P HP.out (wf_nat (by omega)) (by omega)).mono fun e w' h => ⟨.int .i64 0, by rw [h.1, HWE.out], rfl, h.2⟩) (fun v w' h => h.2.1.1) ?_ AllReadyF.nil)
      rintro v w2 ⟨rfl, hd2, hk2⟩ hS2
      simp only [Act.put, List.setIfInBounds_toArray, List.set_cons_zero, List.set_cons_succ]
      refine mf_yield (i := 13) (d := 59) (.bool false) rfl rfl (by kernel_rfl) (by kernel_rfl) (by kernel_rfl) (by kernel_rfl) hS2 (y_neo (by rfl) rfl rfl rfl rfl) ?_
      simp only [Act.put, List.setIfInBounds_toArray, List.set_cons_zero, List.set_cons_succ]
      refine mf_done (by kernel_rfl) ?_
      have HD2 := Lib.hid hd2
      have HPG2 := Lib.hid (HPG.out.kp hk2)
      have HPM2 := Lib.hid (HPM.out.kp hk2)
      have HG2 := Lib.hid (HG.out.writeD hj P (by omega))
      clear hS hS2 hd2 hk2 HD HPG HPM HG HWE
      go_wp2_with fail
      refine mf_start (fun w' => Below w.heap.size w w') (fun i => i == 12) HD2.out.drew.1 fun hS => ?_
      refine mf_yield (i := 0) (d := 60) (.slice ((some ⟨lb, lo, none⟩)) n c) rfl rfl (by kernel_rfl) (by kernel_rfl) (by kernel_rfl) (by kernel_rfl) hS (y_run (by rfl) fun _ => by rfl) ?_
      simp only [Act.put, List.setIfInBounds_toArray, List.set_cons_zero, List.set_cons_succ]
      refine mf_yield (i := 1) (d := 61) (.int .i64 k) rfl rfl (by kernel_rfl) (by kernel_rfl) (by kernel_rfl) (by kernel_rfl) hS (y_run (by rfl) fun _ => by rfl) ?_
      simp only [Act.put, List.setIfInBounds_toArray, List.set_cons_zero, List.set_cons_succ]
      refine mf_yield (i := 2) (d := 62) (.pointer (some ⟨lb, o, none⟩)) rfl rfl (by kernel_rfl) (by kernel_rfl) (by kernel_rfl) (by kernel_rfl) hS (y_ex elt_a (by rfl) rfl rfl rfl rfl hk ho) ?_
      simp only [Act.put, List.setIfInBounds_toArray, List.set_cons_zero, List.set_cons_succ]
      refine mf_yield (i := 3) (d := 63) (.pointer (some ⟨lb, (o + 1), none⟩)) rfl rfl (by kernel_rfl) (by kernel_rfl) (by kernel_rfl) (by kernel_rfl) hS (y_fieldO (by rfl) rfl rfl fld_a1 rfl) ?_
      simp only [Act.put, List.setIfInBounds_toArray, List.set_cons_zero, List.set_cons_succ]
      refine mf_yield (i := 4) (d := 64) (.int .i64 pl) rfl rfl (by kernel_rfl) (by kernel_rfl) (by kernel_rfl) (by kernel_rfl) hS (y_cell1 (by rfl) rfl rfl Try.underlying3 rfl (fun w' h => (HAC.out.below h).2.1)) ?_
      simp only [Act.put, List.setIfInBounds_toArray, List.set_cons_zero, List.set_cons_succ]
      refine mf_yield (i := 5) (d := 65) (.int .i64 j) rfl rfl (by kernel_rfl) (by kernel_rfl) (by kernel_rfl) (by kernel_rfl) hS (y_and (by rfl) rfl rfl rfl hand) ?_
      simp only [Act.put, List.setIfInBounds_toArray, List.set_cons_zero, List.set_cons_succ]
      refine mf_yield (i := 6) (d := 66) (.slice ((some ⟨lb, lo, none⟩)) n c) rfl rfl (by kernel_rfl) (by kernel_rfl) (by kernel_rfl) (by kernel_rfl) hS (y_run (by rfl) fun _ => by rfl) ?_
      simp only [Act.put, List.setIfInBounds_toArray, List.set_cons_zero, List.set_cons_succ]
      refine mf_yield (i := 7) (d := 67) (.int .i64 k) rfl rfl (by kernel_rfl) (by kernel_rfl) (by kernel_rfl) (by kernel_rfl) hS (y_run (by rfl) fun _ => by rfl) ?_
      simp only [Act.put, List.setIfInBounds_toArray, List.set_cons_zero, List.set_cons_succ]
      refine mf_yield (i := 8) (d := 68) (.pointer (some ⟨lb, o, none⟩)) rfl rfl (by kernel_rfl) (by kernel_rfl) (by kernel_rfl) (by kernel_rfl) hS (y_ex elt_a (by rfl) rfl rfl rfl rfl hk ho) ?_
      simp only [Act.put, List.setIfInBounds_toArray, List.set_cons_zero, List.set_cons_succ]
      refine mf_yield (i := 9) (d := 69) (.pointer (some ⟨lb, (o + 2), none⟩)) rfl rfl (by kernel_rfl) (by kernel_rfl) (by kernel_rfl) (by kernel_rfl) hS (y_fieldO (by rfl) rfl rfl fld_a2 rfl) ?_
      simp only [Act.put, List.setIfInBounds_toArray, List.set_cons_zero, List.set_cons_succ]
      refine mf_yield (i := 10) (d := 70) (.agg P) rfl rfl (by kernel_rfl) (by kernel_rfl) (by kernel_rfl) (by kernel_rfl) hS (y_load_range (by rfl) rfl rfl (fun w' h => (HAC.out.below h).2.2.1) Try.underlying36 rfl (info_pag HP.out)) ?_
      simp only [Act.put, List.setIfInBounds_toArray, List.set_cons_zero, List.set_cons_succ]
      refine mf_one (i := 11) (d := 71) (.pointer (some ⟨g, (j * 64), none⟩)) rfl rfl (by kernel_rfl) hS (y_ax (by rfl) rfl rfl rfl Try.underlying52 info_page rfl hj (Nat.zero_add _)) ?_
      simp only [Act.put, List.setIfInBounds_toArray, List.set_cons_zero, List.set_cons_succ]
      refine mf_of (i := 12) rfl (by kernel_rfl) (by rfl) fun Q' hQ => ?_
      obtain ⟨C, hC, hPC⟩ := HPG2.out.drew.stored hj HP.out
      refine wpList_store_mid rfl 36 _ _ rfl g (j * 64) P rfl rfl (by rw [HP.out.size]; exact HPG2.out.drew.there hj) (info_pag HP.out) HP.out.one ?_
      rw [hC]
      refine hQ _ _ (fun h => by cases h) ?_
      clear hQ
      clear Q'
      simp only [Act.put]
      refine mf_done (by kernel_rfl) ?_
      have HX := Lib.hid (show SuS w b g gm (k + 1) (w2.drew.setRow g C) from ⟨G, _, upd F j P, HD2.out.drew.setRow HPG2.out.1 C, hPC, HPM2.out.drew.other (Ne.symm hne) C, HG2.out.ext fun i _ => by unfold allB; rw [if_pos rfl], hne⟩)
      clear hS hC hPC HD2 HPG2 HPM2 HG2
      go_wp2_with fail
      go_roundw
      case rel => exact ⟨k + 1, by omega, by go_num, HX⟩
      case measure => simp [intOf]; omega
    · obtain rfl : k = n := by omega
      have k1 : ¬ (k : Int) < (k : Int) := by omega
      clear hk
      go_wp2_with fail
      refine (sync_L HD.out (by omega)).mono ?_
      rintro e w2 ⟨rfl, hd2, hk2⟩
      rw [HG.out.syncE, if_neg (by omega)]
      have HD2 := Lib.hid hd2
      have HPG2 := Lib.hid (HPG.out.kp hk2)
      have HPM2 := Lib.hid (HPM.out.kp hk2)
      have HG2 := Lib.hid (HG.out.syncD (keepB kn t) (by omega))
      have HN2 := Lib.hid (HG.out.syncD (keepB kn t) (by omega)).n
      clear hd2 hk2 HD HPG HPM HG
      go_wp2_with fail
      refine (loose_L HD2.out).mono ?_
      rintro e w2 ⟨rfl, rfl⟩
      rw [HN2.out]
      obtain ⟨C, hC, ⟨old, ho, hos⟩, hC5, hC1, hPC⟩ := HPG2.out.copied HPM2.out
      have HC := Lib.hid hC
      have HO := Lib.hid (And.intro ho hos)
      have HC5 := Lib.hid hC5
      have HC1 := Lib.hid hC1
      have HS := Lib.hid (show SuT w b gm k 0 (keepB kn t) (w2.setRow gm C) from ⟨G, _, F, HD2.out.setRow HPM2.out.1 C, hPC, HG2.out⟩)
      clear hC ho hos hC5 hC1 hPC HD2 HPG2 HPM2 HG2 HN2
      go_wp2_with (first
        | refine wpList_load_range (by rfl) 52 _ rfl g 0 rfl (At.rng HC.out) Try.underlying52 rfl (by rw [HC5.out]; exact info_8) ?_
        | refine wpList_store_row rfl 52 _ _ rfl gm C rfl rfl _ _ HO.out.1 (by rw [HC5.out]; exact info_8) HO.out.2 HC1.out ?_)
      revert HS
      generalize World.setRow _ _ _ = W4
      intro HS
      clear HC HO HC5 HC1
      go_loopw [12] (fun i w' => ∃ q : Nat, q ≤ n2 ∧ i = .int .i64 q ∧ Hid (SuT w b gm k q (keepB kn t) w')) (fun i _ => n2 - (intOf i).toNat)
      case atStart => exact ⟨0, Nat.zero_le _, rfl, HS⟩
      case round =>
        obtain ⟨q, hqn, rfl, HL⟩ := hrel
        clear HS
        obtain ⟨G, d, M, hD, hPG, hG⟩ := HL.out
        have HD := Lib.hid hD
        have HPG := Lib.hid hPG
        have HG := Lib.hid hG
        clear hD hPG hG HL
        by_cases hk : q < n2
        · have j1 : (q : Int) < (n2 : Int) := by omega
          obtain ⟨lb, lo, o, P, ha, ho, hlb, hP, hV⟩ := SlA.act HA2.out HOK2.out hk
          subst ha
          have HP := Lib.hid (show Pag P from ⟨_, hP⟩)
          have HAC := Lib.hid hV
          clear hP hV
          obtain ⟨pl, hpl⟩ : ∃ pl, (A2 q).pl = pl := ⟨_, rfl⟩
          rw [hpl] at HAC
          clear hpl
          obtain ⟨j, hj, hand⟩ := pl_mod pl
          have HWE := Lib.hid (show d.writeE j = 0 by rw [HG.out.writeE hj, if_neg (by omega)])
          go_wp2_with fail
          refine mf_start (fun w' => Below w.heap.size w w') (fun _ => false) HD.out.drew.1 fun hS => ?_
          refine mf_yield (i := 0) (d := 87) (.pointer (some ⟨b, 0, none⟩)) rfl rfl (by kernel_rfl) (by kernel_rfl) (by kernel_rfl) (by kernel_rfl) hS (y_run (by rfl) fun _ => by rfl) ?_
          simp only [Act.put, List.setIfInBounds_toArray, List.set_cons_zero, List.set_cons_succ]
          refine mf_yield (i := 1) (d := 88) (.slice ((some ⟨lb, lo, none⟩)) n2 c2) rfl rfl (by kernel_rfl) (by kernel_rfl) (by kernel_rfl) (by kernel_rfl) hS (y_run (by rfl) fun _ => by rfl) ?_
          simp only [Act.put, List.setIfInBounds_toArray, List.set_cons_zero, List.set_cons_succ]
          refine mf_yield (i := 2) (d := 89) (.int .i64 q) rfl rfl (by kernel_rfl) (by kernel_rfl) (by kernel_rfl) (by kernel_rfl) hS (y_run (by rfl) fun _ => by rfl) ?_
          simp only [Act.put, List.setIfInBounds_toArray, List.set_cons_zero, List.set_cons_succ]
          refine mf_yield (i := 3) (d := 90) (.pointer (some ⟨lb, o, none⟩)) rfl rfl (by kernel_rfl) (by kernel_rfl) (by kernel_rfl) (by kernel_rfl) hS (y_ex elt_a (by rfl) rfl rfl rfl rfl hk ho) ?_
          simp only [Act.put, List.setIfInBounds_toArray, List.set_cons_zero, List.set_cons_succ]
          refine mf_yield (i := 4) (d := 91) (.pointer (some ⟨lb, (o + 1), none⟩)) rfl rfl (by kernel_rfl) (by kernel_rfl) (by kernel_rfl) (by kernel_rfl) hS (y_fieldO (by rfl) rfl rfl fld_a1 rfl) ?_
          simp only [Act.put, List.setIfInBounds_toArray, List.set_cons_zero, List.set_cons_succ]
          refine mf_yield (i := 5) (d := 92) (.int .i64 pl) rfl rfl (by kernel_rfl) (by kernel_rfl) (by kernel_rfl) (by kernel_rfl) hS (y_cell1 (by rfl) rfl rfl Try.underlying3 rfl (fun w' h => (HAC.out.below h).2.1)) ?_
          simp only [Act.put, List.setIfInBounds_toArray, List.set_cons_zero, List.set_cons_succ]
          refine mf_yield (i := 6) (d := 93) (.int .i64 j) rfl rfl (by kernel_rfl) (by kernel_rfl) (by kernel_rfl) (by kernel_rfl) hS (y_and (by rfl) rfl rfl rfl hand) ?_
          simp only [Act.put, List.setIfInBounds_toArray, List.set_cons_zero, List.set_cons_succ]
          refine mf_yield (i := 7) (d := 94) (.slice ((some ⟨lb, lo, none⟩)) n2 c2) rfl rfl (by kernel_rfl) (by kernel_rfl) (by kernel_rfl) (by kernel_rfl) hS (y_run (by rfl) fun _ => by rfl) ?_
          simp only [Act.put, List.setIfInBounds_toArray, List.set_cons_zero, List.set_cons_succ]
          refine mf_yield (i := 8) (d := 95) (.int .i64 q) rfl rfl (by kernel_rfl) (by kernel_rfl) (by kernel_rfl) (by kernel_rfl) hS (y_run (by rfl) fun _ => by rfl) ?_
          simp only [Act.put, List.setIfInBounds_toArray, List.set_cons_zero, List.set_cons_succ]
          refine mf_yield (i := 9) (d := 96) (.pointer (some ⟨lb, o, none⟩)) rfl rfl (by kernel_rfl) (by kernel_rfl) (by kernel_rfl) (by kernel_rfl) hS (y_ex elt_a (by rfl) rfl rfl rfl rfl hk ho) ?_
          simp only [Act.put, List.setIfInBounds_toArray, List.set_cons_zero, List.set_cons_succ]
          refine mf_yield (i := 10) (d := 97) (.pointer (some ⟨lb, (o + 2), none⟩)) rfl rfl (by kernel_rfl) (by kernel_rfl) (by kernel_rfl) (by kernel_rfl) hS (y_fieldO (by rfl) rfl rfl fld_a2 rfl) ?_
          simp only [Act.put, List.setIfInBounds_toArray, List.set_cons_zero, List.set_cons_succ]
          refine mf_yield (i := 11) (d := 98) (.agg P) rfl rfl (by kernel_rfl) (by kernel_rfl) (by kernel_rfl) (by kernel_rfl) hS (y_load_range (by rfl) rfl rfl (fun w' h => (HAC.out.below h).2.2.1) Try.underlying36 rfl (info_pag HP.out)) ?_
          simp only [Act.put, List.setIfInBounds_toArray, List.set_cons_zero, List.set_cons_succ]
          refine mf_ready [12] (by kernel_rfl) (by simp) (af_call (i := 12) (d := 99) (R := fun v w' => v = .int .i64 0 ∧ DkL w b _ _ G w' ∧ Kp G wr w') #[.pointer (some ⟨b, 0, none⟩), .int .i64 j, .agg P] rfl rfl (by rfl) rfl enter_write (by kernel_rfl) ((write_L HD.out.drew (j : Int) P HP.out (wf_nat (by omega)) (by omega)).mono fun e w' h => ⟨.int .i64 0, by rw [h.1, HWE.out], rfl, h.2⟩) (fun v w' h => h.2.1.1) ?_ AllReadyF.nil)
          rintro v w2 ⟨rfl, hd2, hk2⟩ hS2
          simp only [Act.put, List.setIfInBounds_toArray, List.set_cons_zero, List.set_cons_succ]
          refine mf_yield (i := 13) (d := 100) (.bool false) rfl rfl (by kernel_rfl) (by kernel_rfl) (by kernel_rfl) (by kernel_rfl) hS2 (y_neo (by rfl) rfl rfl rfl rfl) ?_
          simp only [Act.put, List.setIfInBounds_toArray, List.set_cons_zero, List.set_cons_succ]
          refine mf_done (by kernel_rfl) ?_
          have HD2 := Lib.hid hd2
          have HPG2 := Lib.hid (HPG.out.kp hk2)
          have HG2 := Lib.hid (HG.out.writeD hj P (by omega))
          clear hS hS2 hd2 hk2 HD HPG HG HWE
          by_cases hkk : keepB kn t q = true
          · have hq2 : q < kn := by
              unfold keepB at hkk
              by_cases c : q < kn
              · exact c
              · rw [decide_eq_false c] at hkk; cases hkk
            have ht : t q = true := by unfold keepB at hkk; rw [decide_eq_true hq2] at hkk; simpa using hkk
            have j2 : (q : Int) < (kn : Int) := by omega
            have i0 : (0 : Int) ≤ (q : Int) := by omega
            obtain ⟨kb, ko, hkb, hkc⟩ := HK.out.2.2 (by omega)
            subst hkb
            have c1 := (Below.cell HD2.out.1 (block_lt_of_cell (hkc q hq2))).trans (hkc q hq2)
            rw [ht] at c1
            rw [if_pos hkk] at HG2
            clear hkc ht hq2
            go_wp2_with fail
            refine mf_start (fun w' => Below w.heap.size w w') (fun i => i == 12) HD2.out.drew.1 fun hS => ?_
            refine mf_yield (i := 0) (d := 111) (.slice ((some ⟨lb, lo, none⟩)) n2 c2) rfl rfl (by kernel_rfl) (by kernel_rfl) (by kernel_rfl) (by kernel_rfl) hS (y_run (by rfl) fun _ => by rfl) ?_
            simp only [Act.put, List.setIfInBounds_toArray, List.set_cons_zero, List.set_cons_succ]
            refine mf_yield (i := 1) (d := 112) (.int .i64 q) rfl rfl (by kernel_rfl) (by kernel_rfl) (by kernel_rfl) (by kernel_rfl) hS (y_run (by rfl) fun _ => by rfl) ?_
            simp only [Act.put, List.setIfInBounds_toArray, List.set_cons_zero, List.set_cons_succ]
            refine mf_yield (i := 2) (d := 113) (.pointer (some ⟨lb, o, none⟩)) rfl rfl (by kernel_rfl) (by kernel_rfl) (by kernel_rfl) (by kernel_rfl) hS (y_ex elt_a (by rfl) rfl rfl rfl rfl hk ho) ?_
            simp only [Act.put, List.setIfInBounds_toArray, List.set_cons_zero, List.set_cons_succ]
            refine mf_yield (i := 3) (d := 114) (.pointer (some ⟨lb, (o + 1), none⟩)) rfl rfl (by kernel_rfl) (by kernel_rfl) (by kernel_rfl) (by kernel_rfl) hS (y_fieldO (by rfl) rfl rfl fld_a1 rfl) ?_
            simp only [Act.put, List.setIfInBounds_toArray, List.set_cons_zero, List.set_cons_succ]
            refine mf_yield (i := 4) (d := 115) (.int .i64 pl) rfl rfl (by kernel_rfl) (by kernel_rfl) (by kernel_rfl) (by kernel_rfl) hS (y_cell1 (by rfl) rfl rfl Try.underlying3 rfl (fun w' h => (HAC.out.below h).2.1)) ?_
            simp only [Act.put, List.setIfInBounds_toArray, List.set_cons_zero, List.set_cons_succ]
            refine mf_yield (i := 5) (d := 116) (.int .i64 j) rfl rfl (by kernel_rfl) (by kernel_rfl) (by kernel_rfl) (by kernel_rfl) hS (y_and (by rfl) rfl rfl rfl hand) ?_
            simp only [Act.put, List.setIfInBounds_toArray, List.set_cons_zero, List.set_cons_succ]
            refine mf_yield (i := 6) (d := 117) (.slice ((some ⟨lb, lo, none⟩)) n2 c2) rfl rfl (by kernel_rfl) (by kernel_rfl) (by kernel_rfl) (by kernel_rfl) hS (y_run (by rfl) fun _ => by rfl) ?_
            simp only [Act.put, List.setIfInBounds_toArray, List.set_cons_zero, List.set_cons_succ]
            refine mf_yield (i := 7) (d := 118) (.int .i64 q) rfl rfl (by kernel_rfl) (by kernel_rfl) (by kernel_rfl) (by kernel_rfl) hS (y_run (by rfl) fun _ => by rfl) ?_
            simp only [Act.put, List.setIfInBounds_toArray, List.set_cons_zero, List.set_cons_succ]
            refine mf_yield (i := 8) (d := 119) (.pointer (some ⟨lb, o, none⟩)) rfl rfl (by kernel_rfl) (by kernel_rfl) (by kernel_rfl) (by kernel_rfl) hS (y_ex elt_a (by rfl) rfl rfl rfl rfl hk ho) ?_
            simp only [Act.put, List.setIfInBounds_toArray, List.set_cons_zero, List.set_cons_succ]
            refine mf_yield (i := 9) (d := 120) (.pointer (some ⟨lb, (o + 2), none⟩)) rfl rfl (by kernel_rfl) (by kernel_rfl) (by kernel_rfl) (by kernel_rfl) hS (y_fieldO (by rfl) rfl rfl fld_a2 rfl) ?_
            simp only [Act.put, List.setIfInBounds_toArray, List.set_cons_zero, List.set_cons_succ]
            refine mf_yield (i := 10) (d := 121) (.agg P) rfl rfl (by kernel_rfl) (by kernel_rfl) (by kernel_rfl) (by kernel_rfl) hS (y_load_range (by rfl) rfl rfl (fun w' h => (HAC.out.below h).2.2.1) Try.underlying36 rfl (info_pag HP.out)) ?_
            simp only [Act.put, List.setIfInBounds_toArray, List.set_cons_zero, List.set_cons_succ]
            refine mf_one (i := 11) (d := 122) (.pointer (some ⟨gm, (j * 64), none⟩)) rfl rfl (by kernel_rfl) hS (y_ax (by rfl) rfl rfl rfl Try.underlying52 info_page rfl hj (Nat.zero_add _)) ?_
            simp only [Act.put, List.setIfInBounds_toArray, List.set_cons_zero, List.set_cons_succ]
            refine mf_of (i := 12) rfl (by kernel_rfl) (by rfl) fun Q' hQ => ?_
            obtain ⟨C, hC, hPC⟩ := HPG2.out.drew.stored hj HP.out
            refine wpList_store_mid rfl 36 _ _ rfl gm (j * 64) P rfl rfl (by rw [HP.out.size]; exact HPG2.out.drew.there hj) (info_pag HP.out) HP.out.one ?_
            rw [hC]
            refine hQ _ _ (fun h => by cases h) ?_
            clear hQ
            clear Q'
            simp only [Act.put]
            refine mf_done (by kernel_rfl) ?_
            have HX := Lib.hid (show SuT w b gm k (q + 1) (keepB kn t) (w2.drew.setRow gm C) from ⟨G, _, upd M j P, HD2.out.drew.setRow HPG2.out.1 C, hPC, HG2.out⟩)
            clear hS hC hPC HD2 HPG2 HG2 c1
            go_wp2_with fail
            go_roundw
            case rel => exact ⟨q + 1, by omega, by go_num, HX⟩
            case measure => simp [intOf]; omega
          · rw [if_neg hkk] at HG2
            have HX := Lib.hid (show SuT w b gm k (q + 1) (keepB kn t) w2 from ⟨G, _, M, HD2.out, HPG2.out, HG2.out⟩)
            by_cases hq2 : q < kn
            · have ht : t q = false := by unfold keepB at hkk; rw [decide_eq_true hq2] at hkk; simpa using hkk
              have j2 : (q : Int) < (kn : Int) := by omega
              have i0 : (0 : Int) ≤ (q : Int) := by omega
              obtain ⟨kb, ko, hkb, hkc⟩ := HK.out.2.2 (by omega)
              subst hkb
              have c1 := (Below.cell HD2.out.1 (block_lt_of_cell (hkc q hq2))).trans (hkc q hq2)
              rw [ht] at c1
              clear hkc ht hq2 HD2 HPG2 HG2
              go_wp2_with fail
              go_roundw
              case rel => exact ⟨q + 1, by omega, by go_num, HX⟩
              case measure => simp [intOf]; omega
            · have j2 : ¬ (q : Int) < (kn : Int) := by omega
              clear hq2 HD2 HPG2 HG2
              go_wp2_with fail
              go_roundw
              case rel => exact ⟨q + 1, by omega, by go_num, HX⟩
              case measure => simp [intOf]; omega
        · obtain rfl : q = n2 := by omega
          have j1 : ¬ (q : Int) < (q : Int) := by omega
          clear hk
          go_wp2_with fail
          refine (crash_L HD.out (by omega) ka kn kc t (HK.out.below HD.out.1) (fun hn b o e => .inl (SlB.lt HK.out hn b o e))).mono ?_
          rintro e w2 ⟨rfl, hd2, hk2⟩
          have HD2 := Lib.hid hd2
          have HPG2 := Lib.hid (HPG.out.kp hk2)
          have HG2 := Lib.hid (HG.out.crash allB)
          clear hd2 hk2 HD HPG HG
          go_wp2_with fail
          refine (up_L HD2.out).mono ?_
          rintro e w3 ⟨rfl, hd3, hk3⟩
          have HS := Lib.hid (show RdS w b gm (k + q + 0) M M w3 from ⟨G, _, hd3, HPG2.out.kp hk3, HG2.out⟩)
          clear hd3 hk3 HD2 HPG2 HG2
          generalize M = F at HS
          go_wp2_with fail
          go_loopw [13] (fun i w' => ∃ j : Nat, j ≤ 8 ∧ i = .int .i64 j ∧ Hid (RdS w b gm (k + q + j) F F w')) (fun i _ => 8 - (intOf i).toNat)
          case atStart => exact ⟨0, Nat.zero_le _, rfl, HS⟩
          case round =>
            obtain ⟨j, hj8, rfl, HR⟩ := hrel
            clear HS
            obtain ⟨G, d, hD, hPG, hG⟩ := HR.out
            have HD := Lib.hid hD
            have HPG := Lib.hid hPG
            have HG := Lib.hid hG
            clear hD hPG hG HR
            by_cases hj : j < 8
            · have i1 : (j : Int) < 8 := by omega
              have HP := Lib.hid (HPG.out.2.2 j hj)
              go_wp2_with fail
              refine (read_L HD.out (j : Int) (wf_nat (by omega)) (by omega)).mono ?_
              rintro e w5 ⟨rfl, hd5, hk5⟩
              have HG5 := Lib.hid (HG.out.readD (j : Int))
              rw [HG.out.readP hj, HG.out.seen hj, HG.out.reach hj]
              have HD5 := Lib.hid (hd5.var (F j))
              have HPG5 := Lib.hid ((HPG.out.kp hk5).alloc (.cells (F j) 36))
              clear hd5 hk5 HD HPG HG
              go_wp2_with (refine wpList_store_row rfl 36 _ _ rfl w5.heap.size (F j) rfl rfl _ _ (heap_alloc_new _ _) (info_pag HP.out) (by rw [HP.out.size]; exact pag_z.size) HP.out.one ?_; rw [World.setRow_alloc_new])
              revert HD5 HPG5
              generalize Plus G w5.heap.size = G5
              generalize w5.heap.size = gp
              generalize World.alloc _ _ = W5
              intro HD5 HPG5
              refine mf_start (fun w' => w'.rangeAt gm (j * 64) (F j).toList ∧ At w' gp (F j) 36) (fun _ => false) ⟨HPG5.out.drew.range hj, HD5.out.2.2⟩ fun hS => ?_
              refine mf_yield (i := 0) (d := 138) (.int .i64 0) rfl rfl (by kernel_rfl) (by kernel_rfl) (by kernel_rfl) (by kernel_rfl) hS (y_run (by rfl) fun _ => by rfl) ?_
              simp only [Act.put, List.setIfInBounds_toArray, List.set_cons_zero, List.set_cons_succ]
              refine mf_yield (i := 1) (d := 139) (.bool false) rfl rfl (by kernel_rfl) (by kernel_rfl) (by kernel_rfl) (by kernel_rfl) hS (y_neo (by rfl) rfl rfl rfl rfl) ?_
              simp only [Act.put, List.setIfInBounds_toArray, List.set_cons_zero, List.set_cons_succ]
              refine mf_yield (i := 2) (d := 140) (.bool false) rfl rfl (by kernel_rfl) (by kernel_rfl) (by kernel_rfl) (by kernel_rfl) hS (y_run (by rfl) fun _ => by rfl) ?_
              simp only [Act.put, List.setIfInBounds_toArray, List.set_cons_zero, List.set_cons_succ]
              refine mf_yield (i := 3) (d := 141) (.agg ((F j))) rfl rfl (by kernel_rfl) (by kernel_rfl) (by kernel_rfl) (by kernel_rfl) hS (y_load_range (by rfl) rfl rfl (fun w' h => At.rng h.2) Try.underlying36 rfl (info_pag HP.out)) ?_
              simp only [Act.put, List.setIfInBounds_toArray, List.set_cons_zero, List.set_cons_succ]
              refine mf_yield (i := 4) (d := 142) (.int .i64 j) rfl rfl (by kernel_rfl) (by kernel_rfl) (by kernel_rfl) (by kernel_rfl) hS (y_run (by rfl) fun _ => by rfl) ?_
              simp only [Act.put, List.setIfInBounds_toArray, List.set_cons_zero, List.set_cons_succ]
              refine mf_yield (i := 5) (d := 143) (.pointer (some ⟨gm, (j * 64), none⟩)) rfl rfl (by kernel_rfl) (by kernel_rfl) (by kernel_rfl) (by kernel_rfl) hS (y_ax (by rfl) rfl rfl rfl Try.underlying52 info_page rfl hj (Nat.zero_add _)) ?_
              simp only [Act.put, List.setIfInBounds_toArray, List.set_cons_zero, List.set_cons_succ]
              refine mf_yield (i := 6) (d := 144) (.agg ((F j))) rfl rfl (by kernel_rfl) (by kernel_rfl) (by kernel_rfl) (by kernel_rfl) hS (y_load_range (by rfl) rfl rfl (fun w' h => h.1) Try.underlying36 rfl (info_pag HP.out)) ?_
              simp only [Act.put, List.setIfInBounds_toArray, List.set_cons_zero, List.set_cons_succ]
              refine mf_yield (i := 7) (d := 145) (.bool false) rfl rfl (by kernel_rfl) (by kernel_rfl) (by kernel_rfl) (by kernel_rfl) hS (y_neq (b := true) (by rfl) rfl rfl rfl (by kernel_rfl) (same_page HP.out)) ?_
              simp only [Act.put, List.setIfInBounds_toArray, List.set_cons_zero, List.set_cons_succ]
              refine mf_yield (i := 8) (d := 146) (.bool false) rfl rfl (by kernel_rfl) (by kernel_rfl) (by kernel_rfl) (by kernel_rfl) hS (y_run (by rfl) fun _ => by rfl) ?_
              simp only [Act.put, List.setIfInBounds_toArray, List.set_cons_zero, List.set_cons_succ]
              refine mf_done (by kernel_rfl) ?_
              have HX := Lib.hid (show RdS w b gm (k + q + (j + 1)) F F W5.drew from ⟨G5, _, HD5.out.1.drew, HPG5.out.drew, HG5.out⟩)
              clear hS HD5 HPG5 HG5
              go_wp2_with fail
              go_roundw
              case rel => exact ⟨j + 1, by omega, by go_num, HX⟩
              case measure => simp [intOf]; omega
            · have i1 : ¬ (j : Int) < 8 := by omega
              have HN := Lib.hid HG.out.n
              clear HPG HG
              go_wp2_with fail
              refine (loose_L HD.out).mono ?_
              rintro e w1 ⟨rfl, rfl⟩
              rw [HN.out]
              go_wp2_with fail
              go_ret
              exact ⟨rfl, HD.out.1⟩
end Go.Proofs.Ytcahdjkmegnbfaa.Dk
