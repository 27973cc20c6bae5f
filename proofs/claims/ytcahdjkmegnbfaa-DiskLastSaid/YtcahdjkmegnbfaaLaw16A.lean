/- The statement DiskLast. -/
import Derived.Test.YtcahdjkmegnbfaaDkG
set_option maxRecDepth 100000
set_option linter.unusedVariables false
set_option linter.unusedSimpArgs false
namespace Go.Proofs.Ytcahdjkmegnbfaa.Dk
open Go.RowKit Go.Proofs.Ytcahdjkmegnbfaa.Row

theorem elt_b : ElT 37 4 1 1 #[.bool false] :=
  ⟨Try.underlying37, ⟨_, _, rfl, rfl, by kernel_rfl, by kernel_rfl, by kernel_rfl⟩, rfl, by omega, by omega⟩

theorem one_true : (#[Value.bool true]).all (·.oneCell') = true := by simp [Value.oneCell']
/-- What stands while acts are written: the disk; the last page of each sector; a true for each write. -/
def LaS (w : World) (b g k : Nat) (ka : Option Addr) (kc : Nat) (w' : World) : Prop :=
  ∃ (G : Nat → Prop) (d : Dsk) (F : Nat → Array Value), DkL w b (2 * k) d G w' ∧ Pgs G w' g F ∧ Gd allB d (-1) k F ∧ Els w' 0 4 1 ka k kc (fun _ => #[.bool true]) ∧ ∀ q, (Value.slice ka k kc).ownBlock = some q → G q ∧ q ≠ g
/-- .. while they are read. -/
def LaR (w : World) (b g n k : Nat) (F : Nat → Array Value) (w' : World) : Prop :=
  ∃ (G : Nat → Prop) (d : Dsk), DkL w b (2 * n + k) d G w' ∧ Pgs G w' g F ∧ Gd allB d (-1) 0 F
/-- One true more. -/
theorem keep_more {w W w4 : World} {b N g k : Nat} {d : Dsk} {G : Nat → Prop} {F : Nat → Array Value} {ka ka' : Option Addr} {kc kc' : Nat} (hD : DkL w b N d G W) (hPG : Pgs G W g F) (hO : ∀ q, (Value.slice ka k kc).ownBlock = some q → G q ∧ q ≠ g)
    (h4 : Els w4 0 4 1 ka' (k + 1) kc' (catE (fun _ => #[.bool true]) k fun _ => #[.bool true])) (g4 : (W.alloc (.cells #[.bool true] 4)).grownBy w4 (Value.slice ka k kc).ownBlock)
    (hat : (Value.slice ka' (k + 1) kc').ownBlock = (Value.slice ka k kc).ownBlock ∨ (Value.slice ka' (k + 1) kc').ownBlock = some (W.alloc (.cells #[.bool true] 4)).heap.size) :
    ∃ G', DkL w b N d G' w4 ∧ Pgs G' w4 g F ∧ Els w4 0 4 1 ka' (k + 1) kc' (fun _ => #[.bool true]) ∧ ∀ q, (Value.slice ka' (k + 1) kc').ownBlock = some q → G' q ∧ q ≠ g := by
  have hf : Fr G W w4 := ((Fr.refl G W).alloc (.cells #[.bool true] 4)).grown g4 fun q hq => .inl (hO q hq).1
  have hg := (hD.2.2 g hPG.1).2
  have hs : (W.alloc (.cells #[.bool true] 4)).heap.size = W.heap.size + 1 := World.size_alloc _ _
  refine ⟨_, hD.own hf, ⟨.inl hPG.1, hPG.2.1.keep fun q hq => ?_, hPG.2.2⟩, h4.ext fun i _ => by unfold catE; split <;> rfl, fun q hq => ?_⟩
  · have e : some g = some q := hq
    injection e with e
    subst e
    exact (g4.block g (by omega) fun e => (hO g e.symm).2 rfl).trans (heap_alloc_old _ _ hg)
  · rcases hat with e | e
    · rw [e] at hq; exact ⟨.inl (hO q hq).1, (hO q hq).2⟩
    · have hq' := (h4.block q hq).2
      rw [e] at hq
      injection hq with hq
      exact ⟨.inr ⟨by omega, hq'⟩, by omega⟩
theorem keep_all {n k : Nat} (h : k < n) : keepB n (fun _ => true) k = allB k := by unfold keepB allB; rw [decide_eq_true h]; rfl

set_option maxHeartbeats 4000000 in
theorem last_yes (w : World) (a : Option Addr) (n c : Nat) (A : Nat → Ac) (h : SlA w a n c A) (hok : ∀ i, i < n → AcOk (A i)) :
    Calls Try.prog 7 #[.slice a n c] w fun e w' => e = .returned (.bool true) ∧ Below w.heap.size w w' := by
  have hz := zero_8
  have hz2 := zero_page
  have HA := Lib.hid h
  have HOK := Lib.hid hok
  clear h hok
  go_enter Try.func7, Try.ntmps7
  go_wp2_with fail
  refine (awake_as w).mono ?_
  rintro e w1 ⟨rfl, hb1⟩
  have HB1 := Lib.hid hb1
  clear hb1
  go_wp2_with fail
  refine (few_as w1 a n c A (HA.out.below HB1.out)).mono ?_
  rintro e w1 ⟨bb, rfl, rfl, hbb⟩
  cases bb
  · clear hbb
    go_wp2_with fail
    refine (awake_as _).mono ?_
    rintro e w2 ⟨rfl, hb2⟩
    have HB2 := Lib.hid (below_trans HB1.out hb2 HB1.out.size)
    clear hb2
    go_wp2_with fail
    go_ret
    exact ⟨rfl, HB2.out⟩
  have hn := (hbb rfl).1
  clear hbb
  go_wp2_with fail
  refine (new_L (w0 := w) (w := w1) (G := fun _ => False) 8 (by omega) (by omega) HB1.out (fun k h => h.elim)).mono ?_
  rintro e w2 ⟨b, rfl, h2, hk0⟩
  have HS := Lib.hid (show LaS w b w2.heap.size 0 none 0 (w2.alloc (.cells z8 52)) from ⟨_, fresh zP 8, fun _ => zP, h2.alloc _, Pgs.new w2, Gd.fresh allB, Els.nil _ _ _ _ _, fun q hq => by simp [Value.ownBlock] at hq⟩)
  clear h2 hk0 HB1
  go_wp2_with fail
  revert HS
  generalize w2.heap.size = g
  generalize World.alloc _ _ = W3
  intro HS
  clear w1 w2
  go_loopw [6, 7] (fun s i w' => ∃ (k : Nat) (ka : Option Addr) (kc : Nat), k ≤ n ∧ i = .int .i64 k ∧ s = .slice ka k kc ∧ Hid (LaS w b g k ka kc w')) (fun _ i _ => n - (intOf i).toNat)
  case atStart => exact ⟨0, none, 0, Nat.zero_le _, rfl, rfl, HS⟩
  case round =>
    obtain ⟨k, ka, kc, hkn, rfl, rfl, HL⟩ := hrel
    clear HS
    by_cases hk : k < n
    · have k1 : (k : Int) < (n : Int) := by omega
      obtain ⟨G, d, F, hD, hPG, hG, hE, hO⟩ := HL.out
      have HD := Lib.hid hD
      have HPG := Lib.hid hPG
      have HG := Lib.hid hG
      have HE := Lib.hid hE
      have HO := Lib.hid hO
      clear hD hPG hG hE hO HL
      obtain ⟨lb, lo, o, P, ha, ho, hlb, hP, hV⟩ := SlA.act HA.out HOK.out hk
      subst ha
      have HP := Lib.hid (show Pag P from ⟨_, hP⟩)
      have HAC := Lib.hid hV
      clear hP hV
      obtain ⟨pl, hpl⟩ : ∃ pl, (A k).pl = pl := ⟨_, rfl⟩
      rw [hpl] at HAC
      clear hpl
      obtain ⟨j, hj, hand⟩ := pl_mod pl
      have HWE := Lib.hid (show d.writeE j = 0 by rw [HG.out.writeE hj, if_neg (by omega)])
      have rx := run_ex (g := lb) (o := lo) (n := n) (c := c) elt_a hk
      rw [ho] at rx
      go_wp2_with fail
      refine mf_start (fun w' => Below w.heap.size w w') (fun _ => false) HD.out.drew.1 fun hS => ?_
      refine mf_yield (i := 0) (d := 31) (.pointer (some ⟨b, 0, none⟩)) rfl rfl (by kernel_rfl) (by kernel_rfl) (by kernel_rfl) (by kernel_rfl) hS (y_run (by rfl) fun _ => by rfl) ?_
      simp only [Act.put, List.setIfInBounds_toArray, List.set_cons_zero, List.set_cons_succ]
      refine mf_yield (i := 1) (d := 32) (.slice ((some ⟨lb, lo, none⟩)) n c) rfl rfl (by kernel_rfl) (by kernel_rfl) (by kernel_rfl) (by kernel_rfl) hS (y_run (by rfl) fun _ => by rfl) ?_
      simp only [Act.put, List.setIfInBounds_toArray, List.set_cons_zero, List.set_cons_succ]
      refine mf_yield (i := 2) (d := 33) (.int .i64 k) rfl rfl (by kernel_rfl) (by kernel_rfl) (by kernel_rfl) (by kernel_rfl) hS (y_run (by rfl) fun _ => by rfl) ?_
      simp only [Act.put, List.setIfInBounds_toArray, List.set_cons_zero, List.set_cons_succ]
      refine mf_yield (i := 3) (d := 34) (.pointer (some ⟨lb, o, none⟩)) rfl rfl (by kernel_rfl) (by kernel_rfl) (by kernel_rfl) (by kernel_rfl) hS (y_ex elt_a (by rfl) rfl rfl rfl rfl hk ho) ?_
      simp only [Act.put, List.setIfInBounds_toArray, List.set_cons_zero, List.set_cons_succ]
      refine mf_yield (i := 4) (d := 35) (.pointer (some ⟨lb, (o + 1), none⟩)) rfl rfl (by kernel_rfl) (by kernel_rfl) (by kernel_rfl) (by kernel_rfl) hS (y_fieldO (by rfl) rfl rfl fld_a1 rfl) ?_
      simp only [Act.put, List.setIfInBounds_toArray, List.set_cons_zero, List.set_cons_succ]
      refine mf_yield (i := 5) (d := 36) (.int .i64 pl) rfl rfl (by kernel_rfl) (by kernel_rfl) (by kernel_rfl) (by kernel_rfl) hS (y_cell1 (by rfl) rfl rfl Try.underlying3 rfl (fun w' h => (HAC.out.below h).2.1)) ?_
      simp only [Act.put, List.setIfInBounds_toArray, List.set_cons_zero, List.set_cons_succ]
      refine mf_yield (i := 6) (d := 37) (.int .i64 j) rfl rfl (by kernel_rfl) (by kernel_rfl) (by kernel_rfl) (by kernel_rfl) hS (y_and (by rfl) rfl rfl rfl hand) ?_
      simp only [Act.put, List.setIfInBounds_toArray, List.set_cons_zero, List.set_cons_succ]
      refine mf_yield (i := 7) (d := 38) (.slice ((some ⟨lb, lo, none⟩)) n c) rfl rfl (by kernel_rfl) (by kernel_rfl) (by kernel_rfl) (by kernel_rfl) hS (y_run (by rfl) fun _ => by rfl) ?_
      simp only [Act.put, List.setIfInBounds_toArray, List.set_cons_zero, List.set_cons_succ]
      refine mf_yield (i := 8) (d := 39) (.int .i64 k) rfl rfl (by kernel_rfl) (by kernel_rfl) (by kernel_rfl) (by kernel_rfl) hS (y_run (by rfl) fun _ => by rfl) ?_
      simp only [Act.put, List.setIfInBounds_toArray, List.set_cons_zero, List.set_cons_succ]
      refine mf_yield (i := 9) (d := 40) (.pointer (some ⟨lb, o, none⟩)) rfl rfl (by kernel_rfl) (by kernel_rfl) (by kernel_rfl) (by kernel_rfl) hS (y_ex elt_a (by rfl) rfl rfl rfl rfl hk ho) ?_
      simp only [Act.put, List.setIfInBounds_toArray, List.set_cons_zero, List.set_cons_succ]
      refine mf_yield (i := 10) (d := 41) (.pointer (some ⟨lb, (o + 2), none⟩)) rfl rfl (by kernel_rfl) (by kernel_rfl) (by kernel_rfl) (by kernel_rfl) hS (y_fieldO (by rfl) rfl rfl fld_a2 rfl) ?_
      simp only [Act.put, List.setIfInBounds_toArray, List.set_cons_zero, List.set_cons_succ]
      refine mf_yield (i := 11) (d := 42) (.agg P) rfl rfl (by kernel_rfl) (by kernel_rfl) (by kernel_rfl) (by kernel_rfl) hS (y_load_range (by rfl) rfl rfl (fun w' h => (HAC.out.below h).2.2.1) Try.underlying36 rfl (info_pag HP.out)) ?_
      simp only [Act.put, List.setIfInBounds_toArray, List.set_cons_zero, List.set_cons_succ]
      refine mf_ready [12] (by kernel_rfl) (by simp) (af_call (i := 12) (d := 43) (R := fun v w' => v = .int .i64 0 ∧ DkL w b _ _ G w' ∧ Kp G wr w') #[.pointer (some ⟨b, 0, none⟩), .int .i64 j, .agg P] rfl rfl (by rfl) rfl enter_write (by kernel_rfl) ((write_L HD.out.drew (j : Int) P HP.out (wf_nat (by omega)) (by omega)).mono fun e w' h => ⟨.int .i64 0, by rw [h.1, HWE.out], rfl, h.2⟩) (fun v w' h => h.2.1.1) ?_ AllReadyF.nil)
      rintro v w2 ⟨rfl, hd2, hk2⟩ hS2
      simp only [Act.put, List.setIfInBounds_toArray, List.set_cons_zero, List.set_cons_succ]
      refine mf_yield (i := 13) (d := 44) (.bool false) rfl rfl (by kernel_rfl) (by kernel_rfl) (by kernel_rfl) (by kernel_rfl) hS2 (y_neo (by rfl) rfl rfl rfl rfl) ?_
      simp only [Act.put, List.setIfInBounds_toArray, List.set_cons_zero, List.set_cons_succ]
      refine mf_done (by kernel_rfl) ?_
      have HD2 := Lib.hid hd2
      have HK2 := Lib.hid hk2
      have HPG2 := Lib.hid (HPG.out.kp hk2)
      have HE2 := Lib.hid (hk2.els (fun q hq => (HO.out q hq).1) HE.out)
      have HG2 := Lib.hid (HG.out.writeD hj P (by omega))
      clear hS hS2 hd2 hk2 HD HPG HE HG HK2
      clear wr
      go_wp2_with fail
      refine mf_start (fun w' => Below w.heap.size w w') (fun i => i == 12) HD2.out.drew.1 fun hS => ?_
      refine mf_yield (i := 0) (d := 45) (.slice ((some ⟨lb, lo, none⟩)) n c) rfl rfl (by kernel_rfl) (by kernel_rfl) (by kernel_rfl) (by kernel_rfl) hS (y_run (by rfl) fun _ => by rfl) ?_
      simp only [Act.put, List.setIfInBounds_toArray, List.set_cons_zero, List.set_cons_succ]
      refine mf_yield (i := 1) (d := 46) (.int .i64 k) rfl rfl (by kernel_rfl) (by kernel_rfl) (by kernel_rfl) (by kernel_rfl) hS (y_run (by rfl) fun _ => by rfl) ?_
      simp only [Act.put, List.setIfInBounds_toArray, List.set_cons_zero, List.set_cons_succ]
      refine mf_yield (i := 2) (d := 47) (.pointer (some ⟨lb, o, none⟩)) rfl rfl (by kernel_rfl) (by kernel_rfl) (by kernel_rfl) (by kernel_rfl) hS (y_ex elt_a (by rfl) rfl rfl rfl rfl hk ho) ?_
      simp only [Act.put, List.setIfInBounds_toArray, List.set_cons_zero, List.set_cons_succ]
      refine mf_yield (i := 3) (d := 48) (.pointer (some ⟨lb, (o + 1), none⟩)) rfl rfl (by kernel_rfl) (by kernel_rfl) (by kernel_rfl) (by kernel_rfl) hS (y_fieldO (by rfl) rfl rfl fld_a1 rfl) ?_
      simp only [Act.put, List.setIfInBounds_toArray, List.set_cons_zero, List.set_cons_succ]
      refine mf_yield (i := 4) (d := 49) (.int .i64 pl) rfl rfl (by kernel_rfl) (by kernel_rfl) (by kernel_rfl) (by kernel_rfl) hS (y_cell1 (by rfl) rfl rfl Try.underlying3 rfl (fun w' h => (HAC.out.below h).2.1)) ?_
      simp only [Act.put, List.setIfInBounds_toArray, List.set_cons_zero, List.set_cons_succ]
      refine mf_yield (i := 5) (d := 50) (.int .i64 j) rfl rfl (by kernel_rfl) (by kernel_rfl) (by kernel_rfl) (by kernel_rfl) hS (y_and (by rfl) rfl rfl rfl hand) ?_
      simp only [Act.put, List.setIfInBounds_toArray, List.set_cons_zero, List.set_cons_succ]
      refine mf_yield (i := 6) (d := 51) (.slice ((some ⟨lb, lo, none⟩)) n c) rfl rfl (by kernel_rfl) (by kernel_rfl) (by kernel_rfl) (by kernel_rfl) hS (y_run (by rfl) fun _ => by rfl) ?_
      simp only [Act.put, List.setIfInBounds_toArray, List.set_cons_zero, List.set_cons_succ]
      refine mf_yield (i := 7) (d := 52) (.int .i64 k) rfl rfl (by kernel_rfl) (by kernel_rfl) (by kernel_rfl) (by kernel_rfl) hS (y_run (by rfl) fun _ => by rfl) ?_
      simp only [Act.put, List.setIfInBounds_toArray, List.set_cons_zero, List.set_cons_succ]
      refine mf_yield (i := 8) (d := 53) (.pointer (some ⟨lb, o, none⟩)) rfl rfl (by kernel_rfl) (by kernel_rfl) (by kernel_rfl) (by kernel_rfl) hS (y_ex elt_a (by rfl) rfl rfl rfl rfl hk ho) ?_
      simp only [Act.put, List.setIfInBounds_toArray, List.set_cons_zero, List.set_cons_succ]
      refine mf_yield (i := 9) (d := 54) (.pointer (some ⟨lb, (o + 2), none⟩)) rfl rfl (by kernel_rfl) (by kernel_rfl) (by kernel_rfl) (by kernel_rfl) hS (y_fieldO (by rfl) rfl rfl fld_a2 rfl) ?_
      simp only [Act.put, List.setIfInBounds_toArray, List.set_cons_zero, List.set_cons_succ]
      refine mf_yield (i := 10) (d := 55) (.agg P) rfl rfl (by kernel_rfl) (by kernel_rfl) (by kernel_rfl) (by kernel_rfl) hS (y_load_range (by rfl) rfl rfl (fun w' h => (HAC.out.below h).2.2.1) Try.underlying36 rfl (info_pag HP.out)) ?_
      simp only [Act.put, List.setIfInBounds_toArray, List.set_cons_zero, List.set_cons_succ]
      refine mf_one (i := 11) (d := 56) (.pointer (some ⟨g, (j * 64), none⟩)) rfl rfl (by kernel_rfl) hS (y_ax (by rfl) rfl rfl rfl Try.underlying52 info_page rfl hj (Nat.zero_add _)) ?_
      simp only [Act.put, List.setIfInBounds_toArray, List.set_cons_zero, List.set_cons_succ]
      refine mf_of (i := 12) rfl (by kernel_rfl) (by rfl) fun Q' hQ => ?_
      obtain ⟨C, hC, hPC⟩ := HPG2.out.drew.stored hj HP.out
      refine wpList_store_mid rfl 36 _ _ rfl g (j * 64) P rfl rfl (by rw [HP.out.size]; exact HPG2.out.drew.there hj) (info_pag HP.out) HP.out.one ?_
      rw [hC]
      refine hQ _ _ (fun h => by cases h) ?_
      have HD3 := Lib.hid (HD2.out.drew.setRow HPG2.out.1 C)
      have HPG3 := Lib.hid hPC
      have HE3 := Lib.hid (show Els (w2.drew.setRow g C) 0 4 1 ka k kc (fun _ => #[.bool true]) from Els.setRow (w := w2.drew) HE2.out C fun q hq => (HO.out q hq).2)
      clear hQ hS HD2 HPG2 HE2 hC hPC
      clear Q'
      simp only [Act.put]
      refine mf_done (by kernel_rfl) ?_
      revert HD3 HPG3 HE3
      generalize World.setRow _ _ _ = W3
      intro HD3 HPG3 HE3
      clear w2
      go_wp2_with (first
        | (refine wpList_slice_el elt_b (R := #[.bool true]) rfl (by omega) rfl _ rfl rfl rfl ?_)
        | (refine wpList_append_els elt_b rfl _ _ rfl rfl (HE3.out.below ((Below.refl _ _).alloc (Nat.le_refl _) (.cells #[.bool true] 4))) W3.heap.size 0 1 1 rfl (wid_one (R := #[.bool true]) rfl one_true) (At.one (At.new W3 #[.bool true] 4)) (by omega) (Nat.zero_le _) ?_
           intro ka' kc' w4 h4 _ g4 hat
           obtain ⟨G4, hD4, hPG4, hE4, hO4⟩ := keep_more HD3.out HPG3.out HO.out h4 g4 hat
           have HD4 := Lib.hid hD4
           have HPG4 := Lib.hid hPG4
           have HE4 := Lib.hid hE4
           have HO4 := Lib.hid hO4
           have c1 := (HAC.out.below hD4.1).2.1
           clear h4 g4 hat hD4 hPG4 hE4 hO4 HD3 HPG3 HE3 HO))
      refine (read_L HD4.out (j : Int) (wf_nat (by omega)) (by omega)).mono ?_
      rintro e w5 ⟨rfl, hd5, hk5⟩
      have HG5 := Lib.hid (HG2.out.readD (j : Int))
      rw [HG2.out.readP hj, HG2.out.seen hj, HG2.out.reach hj, show (if allB k = true then upd F j P else F) j = P from by unfold allB upd; rw [if_pos rfl, if_pos rfl]]
      have HD5 := Lib.hid (hd5.var P)
      have HPG5 := Lib.hid ((HPG4.out.kp hk5).alloc (.cells P 36))
      have HE5 := Lib.hid ((hk5.els (fun q hq => (HO4.out q hq).1) HE4.out).below ((Below.refl _ _).alloc (Nat.le_refl _) (.cells P 36)))
      have HO5 := Lib.hid (show ∀ q, (Value.slice ka' (k + 1) kc').ownBlock = some q → Plus G4 w5.heap.size q ∧ q ≠ g from fun q hq => ⟨.inl (HO4.out q hq).1, (HO4.out q hq).2⟩)
      clear hd5 hk5 HD4 HPG4 HE4 HO4 HG2 c1
      go_wp2_with (refine wpList_store_row rfl 36 _ _ rfl w5.heap.size P rfl rfl _ _ (heap_alloc_new _ _) (info_pag HP.out) (by rw [HP.out.size]; exact pag_z.size) HP.out.one ?_; rw [World.setRow_alloc_new])
      revert HD5 HPG5 HE5 HO5
      generalize Plus G4 w5.heap.size = G5
      generalize w5.heap.size = gp
      generalize World.alloc _ _ = W5
      intro HD5 HPG5 HE5 HO5
      refine mf_start (fun w' => Below w.heap.size w w' ∧ At w' gp P 36) (fun _ => false) ⟨HD5.out.1.drew.1, HD5.out.2.2⟩ fun hS => ?_
      refine mf_yield (i := 0) (d := 71) (.int .i64 0) rfl rfl (by kernel_rfl) (by kernel_rfl) (by kernel_rfl) (by kernel_rfl) hS (y_run (by rfl) fun _ => by rfl) ?_
      simp only [Act.put, List.setIfInBounds_toArray, List.set_cons_zero, List.set_cons_succ]
      refine mf_yield (i := 1) (d := 72) (.bool false) rfl rfl (by kernel_rfl) (by kernel_rfl) (by kernel_rfl) (by kernel_rfl) hS (y_neo (by rfl) rfl rfl rfl rfl) ?_
      simp only [Act.put, List.setIfInBounds_toArray, List.set_cons_zero, List.set_cons_succ]
      refine mf_yield (i := 2) (d := 73) (.bool false) rfl rfl (by kernel_rfl) (by kernel_rfl) (by kernel_rfl) (by kernel_rfl) hS (y_run (by rfl) fun _ => by rfl) ?_
      simp only [Act.put, List.setIfInBounds_toArray, List.set_cons_zero, List.set_cons_succ]
      refine mf_yield (i := 3) (d := 74) (.agg P) rfl rfl (by kernel_rfl) (by kernel_rfl) (by kernel_rfl) (by kernel_rfl) hS (y_load_range (by rfl) rfl rfl (fun w' h => At.rng h.2) Try.underlying36 rfl (info_pag HP.out)) ?_
      simp only [Act.put, List.setIfInBounds_toArray, List.set_cons_zero, List.set_cons_succ]
      refine mf_yield (i := 4) (d := 75) (.slice ((some ⟨lb, lo, none⟩)) n c) rfl rfl (by kernel_rfl) (by kernel_rfl) (by kernel_rfl) (by kernel_rfl) hS (y_run (by rfl) fun _ => by rfl) ?_
      simp only [Act.put, List.setIfInBounds_toArray, List.set_cons_zero, List.set_cons_succ]
      refine mf_yield (i := 5) (d := 76) (.int .i64 k) rfl rfl (by kernel_rfl) (by kernel_rfl) (by kernel_rfl) (by kernel_rfl) hS (y_run (by rfl) fun _ => by rfl) ?_
      simp only [Act.put, List.setIfInBounds_toArray, List.set_cons_zero, List.set_cons_succ]
      refine mf_yield (i := 6) (d := 77) (.pointer (some ⟨lb, o, none⟩)) rfl rfl (by kernel_rfl) (by kernel_rfl) (by kernel_rfl) (by kernel_rfl) hS (y_ex elt_a (by rfl) rfl rfl rfl rfl hk ho) ?_
      simp only [Act.put, List.setIfInBounds_toArray, List.set_cons_zero, List.set_cons_succ]
      refine mf_yield (i := 7) (d := 78) (.pointer (some ⟨lb, (o + 2), none⟩)) rfl rfl (by kernel_rfl) (by kernel_rfl) (by kernel_rfl) (by kernel_rfl) hS (y_fieldO (by rfl) rfl rfl fld_a2 rfl) ?_
      simp only [Act.put, List.setIfInBounds_toArray, List.set_cons_zero, List.set_cons_succ]
      refine mf_yield (i := 8) (d := 79) (.agg P) rfl rfl (by kernel_rfl) (by kernel_rfl) (by kernel_rfl) (by kernel_rfl) hS (y_load_range (by rfl) rfl rfl (fun w' h => (HAC.out.below h.1).2.2.1) Try.underlying36 rfl (info_pag HP.out)) ?_
      simp only [Act.put, List.setIfInBounds_toArray, List.set_cons_zero, List.set_cons_succ]
      refine mf_yield (i := 9) (d := 80) (.bool false) rfl rfl (by kernel_rfl) (by kernel_rfl) (by kernel_rfl) (by kernel_rfl) hS (y_neq (b := true) (by rfl) rfl rfl rfl (by kernel_rfl) (same_page HP.out)) ?_
      simp only [Act.put, List.setIfInBounds_toArray, List.set_cons_zero, List.set_cons_succ]
      refine mf_yield (i := 10) (d := 81) (.bool false) rfl rfl (by kernel_rfl) (by kernel_rfl) (by kernel_rfl) (by kernel_rfl) hS (y_run (by rfl) fun _ => by rfl) ?_
      simp only [Act.put, List.setIfInBounds_toArray, List.set_cons_zero, List.set_cons_succ]
      refine mf_done (by kernel_rfl) ?_
      have HX := Lib.hid (show LaS w b g (k + 1) ka' kc' W5.drew from ⟨G5, _, upd F j P, HD5.out.1.drew.mono (by omega), HPG5.out.drew, (HG5.out.ext fun i _ => by unfold allB; rw [if_pos rfl]), HE5.out, HO5.out⟩)
      clear hS HD5 HPG5 HE5 HO5 HG5
      go_wp2_with fail
      go_roundw
      case rel => exact ⟨k + 1, ka', kc', by omega, by go_num, rfl, HX⟩
      case measure => simp [intOf]; omega
    · obtain rfl : k = n := by omega
      have k1 : ¬ (k : Int) < (k : Int) := by omega
      obtain ⟨G, d, F, hD, hPG, hG, hE, hO⟩ := HL.out
      have HD := Lib.hid hD
      have HPG := Lib.hid hPG
      have HG := Lib.hid hG
      have HB := Lib.hid hE.slB
      have HO := Lib.hid (show ∀ b o, ka = some ⟨b, o, none⟩ → b < w.heap.size ∨ G b from fun b o e => .inr (hO b (by rw [e]; rfl)).1)
      have HL2 := Lib.hid hG.n
      clear hD hPG hG hE hO HL hk
      go_wp2_with fail
      refine (loose_L HD.out).mono ?_
      rintro e w1 ⟨rfl, rfl⟩
      rw [HL2.out]
      go_wp2_with fail
      refine (crash_L HD.out (by omega) ka k kc (fun _ => true) HB.out fun _ => HO.out).mono ?_
      rintro e w2 ⟨rfl, hd2, hk2⟩
      have HD2 := Lib.hid hd2
      have HPG2 := Lib.hid (HPG.out.kp hk2)
      clear hd2 hk2 HD HPG HB HO
      go_wp2_with fail
      refine (up_L HD2.out).mono ?_
      rintro e w3 ⟨rfl, hd3, hk3⟩
      have HS := Lib.hid (show LaR w b g k 0 F w3 from ⟨G, _, hd3, HPG2.out.kp hk3, (HG.out.as (kept' := keepB k fun _ => true) fun i hi => (keep_all hi).symm).crash allB⟩)
      clear hd3 hk3 HD2 HPG2 HG HL2
      go_wp2_with fail
      go_loopw [10] (fun i w' => ∃ j : Nat, j ≤ 8 ∧ i = .int .i64 j ∧ Hid (LaR w b g k j F w')) (fun i _ => 8 - (intOf i).toNat)
      case atStart => exact ⟨0, Nat.zero_le _, rfl, HS⟩
      case round =>
        obtain ⟨j, hj8, rfl, HR⟩ := hrel
        clear HS
        by_cases hj : j < 8
        · have j1 : (j : Int) < 8 := by omega
          obtain ⟨G, d, hD, hPG, hG⟩ := HR.out
          have HD := Lib.hid hD
          have HPG := Lib.hid hPG
          have HG := Lib.hid hG
          have HP := Lib.hid (hPG.2.2 j hj)
          clear hD hPG hG HR
          go_wp2_with fail
          refine (read_L HD.out (j : Int) (wf_nat (by omega)) (by omega)).mono ?_
          rintro e w5 ⟨rfl, hd5, hk5⟩
          have HG5 := Lib.hid (HG.out.readD (j : Int))
          rw [HG.out.readP hj, HG.out.seen hj, HG.out.reach hj]
          have HD5 := Lib.hid (hd5.var (F j))
          have HPG5 := Lib.hid ((HPG.out.kp hk5).alloc (.cells (F j) 36))
          clear hd5 hk5 HD HPG HG
          go_wp2_with (refine wpList_store_row rfl 36 _ _ rfl w5.heap.size (F j) rfl rfl _ _ (heap_alloc_new _ _) (info_pag HP.out) (by rw [HP.out.size]; exact pag_z.size) HP.out.one ?_; rw [World.setRow_alloc_new])
          revert HD5 HPG5
          generalize Plus G w5.heap.size = G5
          generalize w5.heap.size = gp
          generalize World.alloc _ _ = W5
          intro HD5 HPG5
          refine mf_start (fun w' => w'.rangeAt g (j * 64) (F j).toList ∧ At w' gp (F j) 36) (fun _ => false) ⟨HPG5.out.drew.range hj, HD5.out.2.2⟩ fun hS => ?_
          refine mf_yield (i := 0) (d := 102) (.agg ((F j))) rfl rfl (by kernel_rfl) (by kernel_rfl) (by kernel_rfl) (by kernel_rfl) hS (y_load_range (by rfl) rfl rfl (fun w' h => At.rng h.2) Try.underlying36 rfl (info_pag HP.out)) ?_
          simp only [Act.put, List.setIfInBounds_toArray, List.set_cons_zero, List.set_cons_succ]
          refine mf_yield (i := 1) (d := 103) (.int .i64 j) rfl rfl (by kernel_rfl) (by kernel_rfl) (by kernel_rfl) (by kernel_rfl) hS (y_run (by rfl) fun _ => by rfl) ?_
          simp only [Act.put, List.setIfInBounds_toArray, List.set_cons_zero, List.set_cons_succ]
          refine mf_yield (i := 2) (d := 104) (.pointer (some ⟨g, (j * 64), none⟩)) rfl rfl (by kernel_rfl) (by kernel_rfl) (by kernel_rfl) (by kernel_rfl) hS (y_ax (by rfl) rfl rfl rfl Try.underlying52 info_page rfl hj (Nat.zero_add _)) ?_
          simp only [Act.put, List.setIfInBounds_toArray, List.set_cons_zero, List.set_cons_succ]
          refine mf_yield (i := 3) (d := 105) (.agg ((F j))) rfl rfl (by kernel_rfl) (by kernel_rfl) (by kernel_rfl) (by kernel_rfl) hS (y_load_range (by rfl) rfl rfl (fun w' h => h.1) Try.underlying36 rfl (info_pag HP.out)) ?_
          simp only [Act.put, List.setIfInBounds_toArray, List.set_cons_zero, List.set_cons_succ]
          refine mf_yield (i := 4) (d := 106) (.bool false) rfl rfl (by kernel_rfl) (by kernel_rfl) (by kernel_rfl) (by kernel_rfl) hS (y_neq (b := true) (by rfl) rfl rfl rfl (by kernel_rfl) (same_page HP.out)) ?_
          simp only [Act.put, List.setIfInBounds_toArray, List.set_cons_zero, List.set_cons_succ]
          refine mf_done (by kernel_rfl) ?_
          have HX := Lib.hid (show LaR w b g k (j + 1) F W5.drew from ⟨G5, _, HD5.out.1.drew.mono (by omega), HPG5.out.drew, HG5.out⟩)
          clear hS HD5 HPG5 HG5
          go_wp2_with fail
          go_roundw
          case rel => exact ⟨j + 1, by omega, by go_num, HX⟩
          case measure => simp [intOf]; omega
        · have j1 : ¬ (j : Int) < 8 := by omega
          have HX := Lib.hid (show Below w.heap.size w wr from by obtain ⟨_, _, h, _⟩ := HR.out; exact h.1)
          clear HR
          go_wp2_with fail
          go_ret
          exact ⟨rfl, HX.out⟩
end Go.Proofs.Ytcahdjkmegnbfaa.Dk
