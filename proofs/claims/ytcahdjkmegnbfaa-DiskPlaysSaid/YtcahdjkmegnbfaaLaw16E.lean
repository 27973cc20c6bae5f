/- The statement DiskPlays. -/
import Derived.Test.YtcahdjkmegnbfaaDkX
import Derived.Deep.DeepCutAuto
import Derived.Deep.CutBlock
set_option maxRecDepth 100000
set_option linter.unusedVariables false
set_option linter.unusedSimpArgs false
namespace Go.Proofs.Ytcahdjkmegnbfaa.Dk
open Go.RowKit Go.Proofs.Ytcahdjkmegnbfaa.Row

theorem run_maxm (x u : Int) (h : max x (-1) = u) (w : World) :
    Sem.run Try.prog (Builtin.max_ #[3, 3] 3 #[.int .i64 x, .int .i64 (-1)]) w = .ok (.int .i64 u) w := by
  have e : (if x < -1 then -1 else x) = u := by
    rw [← h]; split <;> omega
  rw [← e]
  simp [Builtin.max_, Builtin.max2]
theorem fld_r4 : FldO 33 4 4 := fldO Try.underlying33 rfl rfl (s := 1) (by kernel_rfl) (by omega)
theorem fld_r1 : FldO 33 1 1 := fldO Try.underlying33 rfl rfl (s := 1) (by kernel_rfl) (by omega)
theorem enter_reads (args : Array Value) (w : World) : (callFunc 22 args).run Try.prog w = .ok (.enter 22 args) w := run_enter Try.func22 (by kernel_rfl) rfl args w
theorem enter_loose (args : Array Value) (w : World) : (callFunc 23 args).run Try.prog w = .ok (.enter 23 args) w := run_enter Try.func23 (by kernel_rfl) rfl args w
theorem enter_size (args : Array Value) (w : World) : (callFunc 11 args).run Try.prog w = .ok (.enter 11 args) w := run_enter Try.func11 (by kernel_rfl) rfl args w
theorem readD_sn (d : Dsk) (i : Int) : (d.readD i).size = d.size ∧ (d.readD i).n = d.n := by
  unfold Dsk.readD
  split
  · exact ⟨rfl, rfl⟩
  · exact ⟨rfl, rfl⟩
/-- An act in a variable of its own. -/
def ActV (W : World) (G : Nat → Prop) (ga gx : Nat) (AR : Array Value) : Prop := At W ga AR 39 ∧ G ga ∧ ga ≠ gx

set_option maxHeartbeats 60000000 in
theorem plays_main (w : World) (size : Nat) (hs1 : 1 ≤ size) (hs2 : size ≤ 60) (a : Option Addr) (n c : Nat) (A : Nat → Ac) (h : SlA w a n c A) (hok : ∀ i, i < n → AcOk (A i)) (hB : ∀ i, i < n → SlB w (A i).ka (A i).kn (A i).kc (A i).kf) :
    Calls Try.prog 3 #[.int .i64 size, .slice a n c] w fun e w' => e = .returned (.bool true) ∧ Below w.heap.size w w' := by
  have hz := zero_ref
  have hz2 := zero_page
  have PZ := Lib.hid pag_z
  have hz3 := zero_act
  have HA := Lib.hid h
  have HOK := Lib.hid hok
  have HKB := Lib.hid hB
  clear h hok hB
  obtain ⟨sz, hsz⟩ : ∃ sz : Int, (size : Int) = sz := ⟨_, rfl⟩
  have HSZ := Lib.hid hsz
  have z1 : ¬ sz < 1 := by omega
  have z2 : ¬ (1024 : Int) < sz := by omega
  have z3 : ¬ (60 : Int) < sz := by omega
  rw [hsz]
  clear hsz
  go_enter Try.func3, Try.ntmps3
  go_wp2_with fail
  refine (awake_as w).mono ?_
  rintro e w1 ⟨rfl, hb1⟩
  have HB1 := Lib.hid hb1
  clear hb1
  go_wp2_with fail
  refine (few_as w1 a n c A (HA.out.below HB1.out)).mono ?_
  rintro e w1 ⟨bb, rfl, rfl, hbb⟩
  cases bb
  · clear hbb
    go_wp2_with fail
    refine (awake_as _).mono ?_
    rintro e w2 ⟨rfl, hb2⟩
    have HB2 := Lib.hid (below_trans HB1.out hb2 HB1.out.size)
    clear hb2
    go_wp2_with fail
    go_ret
    exact ⟨rfl, HB2.out⟩
  have hn := (hbb rfl).1
  clear hbb
  go_wp2_with fail
  rw [← HSZ.out]
  refine (new_L (w0 := w) (w := w1) (G := fun _ => False) size hs1 (by omega) HB1.out (fun k h => h.elim)).mono ?_
  rintro e w2 ⟨b, rfl, h2, hk0⟩
  have HD := Lib.hid h2
  clear h2 hk0 HB1
  rw [HSZ.out]
  go_wp2_with fail
  rw [← HSZ.out]
  refine (refNew_as size (by omega) w2).mono ?_
  rintro e w3 ⟨v, rfl, hb3, hr⟩
  have HV6 := Lib.hid (Rk.six hr)
  have HP0 := Lib.hid (show DkL w b 0 (fresh zP size) (Plus (fun k => False ∨ (w2.heap.size ≤ k ∧ k < w3.heap.size)) w3.heap.size) (w3.alloc (.cells v 33)) ∧ At (w3.alloc (.cells v 33)) w3.heap.size v 33 ∧
      RkD (w3.alloc (.cells v 33)) (fun k => False ∨ (w2.heap.size ≤ k ∧ k < w3.heap.size)) (fresh zP size) v ∧ ∀ k, (False ∨ (w2.heap.size ≤ k ∧ k < w3.heap.size)) → k < w3.heap.size from
    ⟨(HD.out.own (.of_below hb3)).alloc _, At.new _ _ _, Rk.below hr ((Below.refl _ _).alloc (Nat.le_refl _) _), fun k hk => by rcases hk with hk | hk; exact hk.elim; exact hk.2⟩)
  clear hb3 hr HD
  rw [HSZ.out]
  go_wp2_with (first
    | (refine wpList_store_row rfl 33 _ _ rfl w3.heap.size v rfl rfl _ _ (heap_alloc_new _ _) (info_ref HV6.out.1) (by rw [HV6.out.1]; rfl) HV6.out.2 ?_
       rw [World.setRow_alloc_new])
    | (refine wpList_make_els (w := w3.alloc (.cells v 33)) (B := (w3.alloc (.cells v 33)).heap.size) elt_i (by simp [Value.oneCell']) rfl _ _ rfl size (by rw [HSZ.out]; rfl) (by rw [HSZ.out]; rfl) (by omega) (Nat.le_refl _) ?_
       intro w4 h4 hb4
       have HS := Lib.hid (show PlS w b (63 * 0) w3.heap.size (w3.heap.size + 1) size 0 size w4 from by
         rw [← World.size_alloc w3 (.cells v 33)]
         obtain ⟨q1, q2, q3, q4⟩ := HP0.out
         have hlt : w3.heap.size < (w3.alloc (.cells v 33)).heap.size := by rw [World.size_alloc]; omega
         have hlt4 : (w3.alloc (.cells v 33)).heap.size < w4.heap.size := (h4.block _ rfl).2
         refine ⟨_, _, fresh zP size, v, ⟨q1.own (.of_below hb4), q2.below hb4 q2.lt, Rk.below q3 hb4, fun k hk => ⟨.inl (.inl hk), by have := q4 k hk; omega, by have := q4 k hk; omega⟩, ⟨.inl (.inr rfl), .inr ⟨Nat.le_refl _, hlt4⟩, by omega⟩, (h4.wide (Nat.zero_le _)).ext fun i _ => rfl, ⟨Fit.fresh hs1 (by omega), Fit.fresh hs1 (by omega)⟩, fun j _ => rfl⟩, Nat.le_refl _, rfl⟩)
       clear h4 hb4 HP0))
  generalize w3.heap.size + 1 = rb at HS ⊢
  generalize w3.heap.size = gx at HS ⊢
  go_loopw [9] (fun i w' => ∃ k : Nat, k ≤ n ∧ i = .int .i64 k ∧ Hid (PlS w b (63 * k) gx rb size k size w')) (fun i _ => n - (intOf i).toNat)
  case atStart => exact ⟨0, Nat.zero_le _, rfl, HS⟩
  case round =>
    obtain ⟨k, hkn, rfl, HL⟩ := hrel
    clear HS HV6
    by_cases hk : k < n
    · have k1 : (k : Int) < (n : Int) := by omega
      as_aux_lemma =>
        obtain ⟨lb, lo, o, P, ha, ho, hlb, hP, hV⟩ := SlA.act HA.out HOK.out hk
        have HP := Lib.hid (show Pag P from ⟨_, hP⟩)
        have HSB := Lib.hid (HKB.out k hk)
        obtain ⟨wop, wpl, _⟩ := HOK.out k hk
        obtain ⟨pl, hpl⟩ : ∃ pl, (A k).pl = pl := ⟨_, rfl⟩
        obtain ⟨opk, hopk⟩ : ∃ opk, (A k).op = opk := ⟨_, rfl⟩
        obtain ⟨ka, hka⟩ : ∃ ka, (A k).ka = ka := ⟨_, rfl⟩
        obtain ⟨kn, hkn2⟩ : ∃ kn, (A k).kn = kn := ⟨_, rfl⟩
        obtain ⟨kc, hkc⟩ : ∃ kc, (A k).kc = kc := ⟨_, rfl⟩
        obtain ⟨kf, hkf⟩ : ∃ kf, (A k).kf = kf := ⟨_, rfl⟩
        rw [hpl] at hV wpl
        rw [hopk] at hV wop
        rw [hka, hkn2, hkc] at hV HSB
        rw [hkf] at HSB
        have HAC := Lib.hid hV
        have hop2 := bounds_u8 wop
        have HWP := Lib.hid wpl
        subst ha
        clear hP hV hpl hopk hka hkn2 hkc hkf wop wpl
        have rx := run_ex (g := lb) (o := lo) (n := n) (c := c) elt_a hk
        rw [ho] at rx
        have HW := Lib.hid (AcV.whole (HAC.out.below (show Below w.heap.size w wr from by obtain ⟨_, _, _, _, h, _⟩ := HL.out; exact h.dk.1)) HP.out)
        have HAR := Lib.hid (acR_get (op := opk) (pl := pl) HP.out ka kn kc)
        obtain ⟨G, Gr, d, v, hPl, hdn, hdz⟩ := HL.out
        have HP0 := Lib.hid (hPl.alloc (.cells (acR opk pl P ka kn kc) 39))
        have HA0 := Lib.hid (show ActV (wr.alloc (.cells (acR opk pl P ka kn kc) 39)) (Plus G wr.heap.size) wr.heap.size gx (acR opk pl P ka kn kc) from ⟨At.new _ _ _, .inr rfl, by have := hPl.row.lt; omega⟩)
        have HDZ := Lib.hid hdz
        have hc0 : (wr.alloc (.cells (acR opk pl P ka kn kc) 39)).cell? ⟨wr.heap.size, 0, none⟩ = some (.int .u8 opk) := (HA0.out.1.cell 0).trans HAR.out.1
        clear hPl hdz HL
        go_upto_block 2 with (first
          | refine wpList_load_range (by rfl) 39 _ rfl lb o rfl HW.out Try.underlying39 rfl (info_act (acR_size HP.out _ _ _)) ?_
          | (refine wpList_store_row rfl 39 _ _ rfl wr.heap.size (acR opk pl P ka kn kc) rfl rfl _ _ (heap_alloc_new _ _) (info_act (acR_size HP.out _ _ _)) (by rw [acR_size HP.out]; kernel_rfl) (acR_one HP.out _ _ _) ?_
             rw [World.setRow_alloc_new]))
        clear HW HAC rx
        revert hc0; revert HA0; revert HP0
        generalize Plus G wr.heap.size = G0
        generalize wr.heap.size = ga
        generalize World.alloc _ _ = W0
        intro HPl HAv hc0
        obtain ⟨q, hq⟩ : ∃ q, opk % 8 = q := ⟨_, rfl⟩
        rw [hq]
        clear hq hc0
        go_cut [9] (fun v wx => v = .int .i64 k ∧ Hid (PlS w b (63 * k + 1) gx rb size (k + 1) size wx))
        case first =>
          by_cases h4 : q = 4
          · subst h4
            as_aux_lemma =>
              have HES := Lib.hid (bne_self_eq_false d.syncE)
              go_wp2_with (refine wpList_load_range (by rfl) 33 _ rfl gx 0 rfl (At.rng HPl.out.row) Try.underlying33 rfl (info_ref HPl.out.cells.2.2.2.1) ?_)
              refine (refSync_D HPl.out.ref HPl.out.low HPl.out.fit.2).mono ?_
              rintro e w1 ⟨v1, rfl, hb1, hr1⟩
              have HV1 := Lib.hid (Rk.six hr1)
              have HP1 := Lib.hid ((HPl.out.grow hb1).alloc (.cells v1 33))
              have HR1 := Lib.hid (show RkD (w1.alloc (.cells v1 33)) _ (d.syncD) v1 from Rk.below hr1 ((Below.refl _ _).alloc (Nat.le_refl _) _))
              have HM1 := Lib.hid (show ∀ k, (Gr k ∨ (W0.heap.size ≤ k ∧ k < w1.heap.size)) → Plus (fun k => G0 k ∨ (W0.heap.size ≤ k ∧ k < w1.heap.size)) w1.heap.size k ∧ k ≠ gx ∧ k ≠ rb from fun k hk => ⟨.inl (HPl.out.made hb1 k hk).1, (HPl.out.made hb1 k hk).2⟩)
              have HA1 := Lib.hid (show ActV (w1.alloc (.cells v1 33)) (Plus (fun k => G0 k ∨ (W0.heap.size ≤ k ∧ k < w1.heap.size)) w1.heap.size) ga gx (acR opk pl P ka kn kc) from ⟨(HAv.out.1.below hb1 HAv.out.1.lt).alloc _, .inl (.inl HAv.out.2.1), HAv.out.2.2⟩)
              clear hb1 hr1
              go_wp2_with (first
                | (refine wpList_store_row rfl 33 _ _ rfl w1.heap.size v1 rfl rfl _ _ (heap_alloc_new _ _) (info_ref HV1.out.1) (by rw [HV1.out.1]; rfl) HV1.out.2 ?_
                   rw [World.setRow_alloc_new])
                | refine wpList_load_range (by rfl) 33 _ rfl w1.heap.size 0 rfl (At.rng (At.new w1 v1 33)) Try.underlying33 rfl (info_ref HV1.out.1) ?_
                | (refine wpList_store_row rfl 33 _ _ rfl gx v1 rfl rfl _ _ HP1.out.row (info_ref HV1.out.1) (by rw [HP1.out.cells.2.2.2.1, HV1.out.1]) HV1.out.2 ?_
                   have HP2 := Lib.hid (HP1.out.setX HR1.out HM1.out (HPl.out.fit.2.sync))
                   have HA2 := Lib.hid (show ActV _ _ ga gx _ from ⟨HA1.out.1.setRow_other (C := v1) HA1.out.2.2, HA1.out.2.1, HA1.out.2.2⟩)
                   revert HA2; revert HP2
                   generalize World.setRow _ _ _ = W2
                   intro HP2 HA2
                   clear HP1 HR1 HM1 HA1
                   have c1 : W2.cell? ⟨ga, 1, none⟩ = some (.int .i64 pl) := (HA2.out.1.cell 1).trans HAR.out.2.1))
              refine (sync_L HP2.out.dk (by omega)).mono ?_
              rintro e W3 ⟨rfl, hd3, hk3⟩
              have HP3 := Lib.hid (HP2.out.disk hd3 hk3 (syncD_n d).2.1 HPl.out.fit.1.sync)
              have hne := HES.out
              clear hd3 hk3 HP2
              have HX := Lib.hid (show PlS w b (63 * k + 1) gx rb size (k + 1) size W3 from ⟨_, _, d.syncD, v1, by rw [(syncD_n d).2.2]; exact HP3.out.mono (by omega), by have := (syncD_n d).1; omega, (syncD_n d).2.1.trans HDZ.out⟩)
              go_wp2_with fail
              go_meet
              exact ⟨rfl, HX⟩
          by_cases h5 : q = 5
          · subst h5
            as_aux_lemma =>
              have c66 : W0.cell? ⟨ga, 66, none⟩ = some (.slice ka kn kc) := (HAv.out.1.cell 66).trans HAR.out.2.2.2
              go_wp2_with fail
              refine (crash_L HPl.out.dk (by omega) ka kn kc kf (HSB.out.below HPl.out.dk.1) (fun hn b o e => .inl (SlB.lt HSB.out hn b o e))).mono ?_
              rintro e W1 ⟨rfl, hd1, hk1⟩
              have HP1 := Lib.hid (HPl.out.disk hd1 hk1 rfl (HPl.out.fit.1.crash (keepB kn kf)))
              have HA1 := Lib.hid (show ActV W1 G0 ga gx (acR opk pl P ka kn kc) from ⟨hk1.at HAv.out.2.1 HAv.out.1, HAv.out.2⟩)
              have d66 : W1.cell? ⟨ga, 66, none⟩ = some (.slice ka kn kc) := (HA1.out.1.cell 66).trans HAR.out.2.2.2
              clear hd1 hk1 c66
              go_wp2_with (refine wpList_load_range (by rfl) 33 _ rfl gx 0 rfl (At.rng HP1.out.row) Try.underlying33 rfl (info_ref HP1.out.cells.2.2.2.1) ?_)
              refine (refCrash_D HP1.out.ref HP1.out.low HPl.out.fit.2 ka kn kc kf (HSB.out.below HP1.out.dk.1)).mono ?_
              rintro e w2 ⟨v1, rfl, hb2, hr2⟩
              have HV1 := Lib.hid (Rk.six hr2)
              have HG2 := Lib.hid (HP1.out.grow hb2)
              have HP2 := Lib.hid (HG2.out.setX hr2 (HP1.out.made hb2) (HPl.out.fit.2.crash (keepB kn kf)))
              clear hb2 hr2 HP1 HA1 d66
              go_wp2_with (refine wpList_store_row rfl 33 _ _ rfl gx v1 rfl rfl _ _ HG2.out.row (info_ref HV1.out.1) (by rw [HG2.out.cells.2.2.2.1, HV1.out.1]) HV1.out.2 ?_)
              have HX := Lib.hid (show PlS w b (63 * k + 1) gx rb size (k + 1) size (w2.setRow gx v1) from ⟨_, _, d.crashed (keepB kn kf), v1, by exact HP2.out.mono (by omega), Nat.zero_le _, HDZ.out⟩)
              go_meet
              exact ⟨rfl, HX⟩
          by_cases h6 : q = 6
          · subst h6
            as_aux_lemma =>
              go_wp2_with fail
              refine (up_L HPl.out.dk).mono ?_
              rintro e W1 ⟨rfl, hd1, hk1⟩
              have HP1 := Lib.hid (HPl.out.disk hd1 hk1 rfl HPl.out.fit.1.up)
              clear hd1 hk1
              obtain ⟨v1, hP2⟩ := HP1.out.upX
              have HP2 := Lib.hid hP2
              clear hP2
              go_wp2_with (refine wpList_store1 rfl 4 _ _ rfl (p := ⟨gx, 4, none⟩) (v := .bool false) rfl rfl (by kernel_rfl) rfl HP1.out.cells.1 (HP1.out.cells.2.2.1 4) ?_)
              have HX := Lib.hid (show PlS w b (63 * k + 1) gx rb size (k + 1) size (W1.setCell ⟨gx, 4, none⟩ (.bool false)) from ⟨_, _, d.upped, v1, by exact HP2.out.mono (by omega), by show d.n ≤ k + 1; omega, HDZ.out⟩)
              go_meet
              exact ⟨rfl, HX⟩
          by_cases h7 : q = 7
          · subst h7
            as_aux_lemma =>
              have c1 : W0.cell? ⟨ga, 1, none⟩ = some (.int .i64 pl) := (HAv.out.1.cell 1).trans HAR.out.2.1
              have rm := run_maxm pl (max pl (-1)) rfl
              go_wp2_with fail
              refine (fuse_L HPl.out.dk pl HWP.out).mono ?_
              rintro e W1 ⟨rfl, hd1, hk1⟩
              have HP1 := Lib.hid (HPl.out.disk hd1 hk1 rfl (HPl.out.fit.1.fused HWP.out))
              have HA1 := Lib.hid (show ActV W1 G0 ga gx (acR opk pl P ka kn kc) from ⟨hk1.at HAv.out.2.1 HAv.out.1, HAv.out.2⟩)
              have d1 : W1.cell? ⟨ga, 1, none⟩ = some (.int .i64 pl) := (HA1.out.1.cell 1).trans HAR.out.2.1
              clear hd1 hk1 c1
              obtain ⟨v1, hP2⟩ := HP1.out.fuseX pl HWP.out
              have HP2 := Lib.hid hP2
              clear hP2
              go_wp2_with (refine wpList_store1 rfl 3 _ _ rfl (p := ⟨gx, 5, none⟩) (v := .int .i64 (max pl (-1))) rfl rfl (by kernel_rfl) rfl HP1.out.cells.2.1 (HP1.out.cells.2.2.1 5) ?_)
              have HX := Lib.hid (show PlS w b (63 * k + 1) gx rb size (k + 1) size (W1.setCell ⟨gx, 5, none⟩ (.int .i64 (max pl (-1)))) from ⟨_, _, d.fused pl, v1, by exact HP2.out.mono (by omega), by show d.n ≤ k + 1; omega, HDZ.out⟩)
              go_meet
              exact ⟨rfl, HX⟩
          as_aux_lemma =>
            have HES := Lib.hid (bne_self_eq_false (d.writeE pl))
            have c1 : W0.cell? ⟨ga, 1, none⟩ = some (.int .i64 pl) := (HAv.out.1.cell 1).trans HAR.out.2.1
            go_wp2_with (first
              | refine wpList_load_range (by rfl) 33 _ rfl gx 0 rfl (At.rng HPl.out.row) Try.underlying33 rfl (info_ref HPl.out.cells.2.2.2.1) ?_
              | refine wpList_load_range (by rfl) 36 _ rfl ga 2 rfl (acV_of HP.out HAv.out.1).2.2.1 Try.underlying36 rfl (info_pag HP.out) ?_)
            refine (refWrite_D HPl.out.ref HPl.out.low HPl.out.fit.2 pl P HP.out).mono ?_
            rintro e w1 ⟨v1, rfl, hb1, hr1⟩
            have HV1 := Lib.hid (Rk.six hr1)
            have HP1 := Lib.hid ((HPl.out.grow hb1).alloc (.cells v1 33))
            have HR1 := Lib.hid (show RkD (w1.alloc (.cells v1 33)) _ (d.writeD pl P) v1 from Rk.below hr1 ((Below.refl _ _).alloc (Nat.le_refl _) _))
            have HM1 := Lib.hid (show ∀ k, (Gr k ∨ (W0.heap.size ≤ k ∧ k < w1.heap.size)) → Plus (fun k => G0 k ∨ (W0.heap.size ≤ k ∧ k < w1.heap.size)) w1.heap.size k ∧ k ≠ gx ∧ k ≠ rb from fun k hk => ⟨.inl (HPl.out.made hb1 k hk).1, (HPl.out.made hb1 k hk).2⟩)
            have HA1 := Lib.hid (show ActV (w1.alloc (.cells v1 33)) (Plus (fun k => G0 k ∨ (W0.heap.size ≤ k ∧ k < w1.heap.size)) w1.heap.size) ga gx (acR opk pl P ka kn kc) from ⟨(HAv.out.1.below hb1 HAv.out.1.lt).alloc _, .inl (.inl HAv.out.2.1), HAv.out.2.2⟩)
            clear hb1 hr1
            clear c1
            go_wp2_with (first
              | refine wpList_load_range (by rfl) 36 _ rfl ga 2 rfl (acV_of HP.out HA2.out.1).2.2.1 Try.underlying36 rfl (info_pag HP.out) ?_
              | (refine wpList_store_row rfl 33 _ _ rfl w1.heap.size v1 rfl rfl _ _ (heap_alloc_new _ _) (info_ref HV1.out.1) (by rw [HV1.out.1]; rfl) HV1.out.2 ?_
                 rw [World.setRow_alloc_new])
              | refine wpList_load_range (by rfl) 33 _ rfl w1.heap.size 0 rfl (At.rng (At.new w1 v1 33)) Try.underlying33 rfl (info_ref HV1.out.1) ?_
              | (refine wpList_store_row rfl 33 _ _ rfl gx v1 rfl rfl _ _ HP1.out.row (info_ref HV1.out.1) (by rw [HP1.out.cells.2.2.2.1, HV1.out.1]) HV1.out.2 ?_
                 have HP2 := Lib.hid (HP1.out.setX HR1.out HM1.out (HPl.out.fit.2.write pl HP.out (by omega)))
                 have HA2 := Lib.hid (show ActV _ _ ga gx _ from ⟨HA1.out.1.setRow_other (C := v1) HA1.out.2.2, HA1.out.2.1, HA1.out.2.2⟩)
                 revert HA2; revert HP2
                 generalize World.setRow _ _ _ = W2
                 intro HP2 HA2
                 clear HP1 HR1 HM1 HA1
                 have c1 : W2.cell? ⟨ga, 1, none⟩ = some (.int .i64 pl) := (HA2.out.1.cell 1).trans HAR.out.2.1))
            refine (write_L HP2.out.dk pl P HP.out HWP.out (by omega)).mono ?_
            rintro e W3 ⟨rfl, hd3, hk3⟩
            have HP3 := Lib.hid (HP2.out.disk hd3 hk3 (writeD_n d pl P).2.1 (HPl.out.fit.1.write pl HP.out (by omega)))
            have hne := HES.out
            clear hd3 hk3 HP2
            have HX := Lib.hid (show PlS w b (63 * k + 1) gx rb size (k + 1) size W3 from ⟨_, _, d.writeD pl P, v1, by rw [(writeD_n d pl P).2.2]; exact HP3.out.mono (by omega), by have := (writeD_n d pl P).1; omega, (writeD_n d pl P).2.1.trans HDZ.out⟩)
            go_wp2_with fail
            go_meet
            exact ⟨rfl, HX⟩
        case rest =>
          obtain ⟨rfl, HM⟩ := hcut
          as_aux_lemma =>
            go_wp2_with fail
            go_loopw [15] (fun i w' => ∃ m : Nat, m ≤ size + 2 ∧ i = .int .i64 ((m : Int) - 1) ∧ Hid (PlS w b (63 * k + 1 + m) gx rb size (k + 1) size w')) (fun i _ => (sz + 1 - intOf i).toNat)
            case atStart => exact ⟨0, Nat.zero_le _, rfl, HM⟩
            case round =>
              obtain ⟨m, hm, rfl, HL⟩ := hrel
              clear HM
              obtain ⟨z, hz⟩ : ∃ z : Int, (m : Int) - 1 = z := ⟨_, rfl⟩
              have HZM := Lib.hid hz
              rw [hz]
              obtain ⟨G, Gr, d, v, hPl, hdn2, hdz⟩ := HL.out
              have HPl := Lib.hid hPl
              have HDZ := Lib.hid hdz
              clear hPl hdz HL
              have hzl : -1 ≤ z := by omega
              have hzu : z ≤ 61 := by omega
              clear hz
              by_cases hzz : z ≤ sz
              · by_cases hz0 : z < 0
                · have hzs : z < sz := by omega
                  cases hdn : d.down
                  · as_aux_lemma =>
                      have hre : d.reach z = 1 := (Dsk.reach_all d _).2.2 hdn (by have := HDZ.out; have := HSZ.out; omega)
                      have HWF := Lib.hid (show (Lit.int .i64 (z : Int)).wf = true from WalkArith.wf_i64 (by omega))
                      have hrp : d.readP zP z = zP := by unfold Dsk.readP; rw [if_neg (by rw [hre]; omega)]
                      have HRD := Lib.hid (show (d.readD z).reads = d.reads by unfold Dsk.readD; rw [if_neg (by rw [hre]; omega)])
                      have HSN := Lib.hid (readD_sn d z)
                      go_wp2_with fail
                      refine (read_L HPl.out.dk z HWF.out (by omega)).mono ?_
                      rintro e w5 ⟨rfl, hd5, hk5⟩
                      rw [hre, hrp]
                      have HP5 := Lib.hid ((HPl.out.disk hd5 hk5 HSN.out.1 (HPl.out.fit.1.read z)).alloc (.cells zP 36))
                      have HVp := Lib.hid (At.new w5 zP 36)
                      clear hd5 hk5 hre hrp
                      go_wp2_with (refine wpList_store_row rfl 36 _ _ rfl w5.heap.size zP rfl rfl _ _ (heap_alloc_new _ _) (info_pag PZ.out) (rfl) PZ.out.one ?_; rw [World.setRow_alloc_new])
                      revert HVp; revert HP5
                      generalize Plus G w5.heap.size = G5
                      generalize w5.heap.size = gp
                      generalize World.alloc _ _ = W5
                      intro HP5 HVp
                      have c4 : W5.cell? ⟨gx, 4, none⟩ = some (.bool false) := by rw [← hdn]; exact HP5.out.cells.1
                      refine mf_start (fun w' => w' = W5.drew) (fun _ => false) rfl fun hS => ?_
                      refine mf_yield (i := 0) (d := 144) (.pointer (some ⟨gx, 4, none⟩)) rfl rfl (by kernel_rfl) (by kernel_rfl) (by kernel_rfl) (by kernel_rfl) hS (y_fieldO (by rfl) rfl rfl fld_r4 rfl) ?_
                      simp only [Act.put, List.setIfInBounds_toArray, List.set_cons_zero, List.set_cons_succ]
                      refine mf_yield (i := 1) (d := 145) (.bool false) rfl rfl (by kernel_rfl) (by kernel_rfl) (by kernel_rfl) (by kernel_rfl) hS (y_cell1 (by rfl) rfl rfl Try.underlying4 rfl (fun w' h => by rw [h]; exact c4)) ?_
                      simp only [Act.put, List.setIfInBounds_toArray, List.set_cons_zero, List.set_cons_succ]
                      refine mf_yield (i := 2) (d := 146) (.bool false) rfl rfl (by kernel_rfl) (by kernel_rfl) (by kernel_rfl) (by kernel_rfl) hS (y_run (by rfl) fun _ => by rfl) ?_
                      simp only [Act.put, List.setIfInBounds_toArray, List.set_cons_zero, List.set_cons_succ]
                      refine mf_yield (i := 3) (d := 147) undef rfl rfl (by kernel_rfl) (by kernel_rfl) (by kernel_rfl) (by kernel_rfl) hS (y_skip (by rfl)) ?_
                      simp only [Act.put, List.setIfInBounds_toArray, List.set_cons_zero, List.set_cons_succ]
                      refine mf_yield (i := 4) (d := 148) undef rfl rfl (by kernel_rfl) (by kernel_rfl) (by kernel_rfl) (by kernel_rfl) hS (y_skip (by rfl)) ?_
                      simp only [Act.put, List.setIfInBounds_toArray, List.set_cons_zero, List.set_cons_succ]
                      refine mf_yield (i := 5) (d := 149) undef rfl rfl (by kernel_rfl) (by kernel_rfl) (by kernel_rfl) (by kernel_rfl) hS (y_skip (by rfl)) ?_
                      simp only [Act.put, List.setIfInBounds_toArray, List.set_cons_zero, List.set_cons_succ]
                      refine mf_yield (i := 6) (d := 150) undef rfl rfl (by kernel_rfl) (by kernel_rfl) (by kernel_rfl) (by kernel_rfl) hS (y_skip (by rfl)) ?_
                      simp only [Act.put, List.setIfInBounds_toArray, List.set_cons_zero, List.set_cons_succ]
                      refine mf_yield (i := 7) (d := 151) undef rfl rfl (by kernel_rfl) (by kernel_rfl) (by kernel_rfl) (by kernel_rfl) hS (y_skip (by rfl)) ?_
                      simp only [Act.put, List.setIfInBounds_toArray, List.set_cons_zero, List.set_cons_succ]
                      refine mf_yield (i := 8) (d := 152) undef rfl rfl (by kernel_rfl) (by kernel_rfl) (by kernel_rfl) (by kernel_rfl) hS (y_skip (by rfl)) ?_
                      simp only [Act.put, List.setIfInBounds_toArray, List.set_cons_zero, List.set_cons_succ]
                      refine mf_yield (i := 9) (d := 153) undef rfl rfl (by kernel_rfl) (by kernel_rfl) (by kernel_rfl) (by kernel_rfl) hS (y_skip (by rfl)) ?_
                      simp only [Act.put, List.setIfInBounds_toArray, List.set_cons_zero, List.set_cons_succ]
                      refine mf_yield (i := 10) (d := 154) (.bool false) rfl rfl (by kernel_rfl) (by kernel_rfl) (by kernel_rfl) (by kernel_rfl) hS (y_run (by rfl) fun _ => by rfl) ?_
                      simp only [Act.put, List.setIfInBounds_toArray, List.set_cons_zero, List.set_cons_succ]
                      refine mf_yield (i := 11) (d := 155) (.bool false) rfl rfl (by kernel_rfl) (by kernel_rfl) (by kernel_rfl) (by kernel_rfl) hS (y_run (by rfl) fun _ => by rfl) ?_
                      simp only [Act.put, List.setIfInBounds_toArray, List.set_cons_zero, List.set_cons_succ]
                      refine mf_yield (i := 12) (d := 156) (.pointer (some ⟨gx, 4, none⟩)) rfl rfl (by kernel_rfl) (by kernel_rfl) (by kernel_rfl) (by kernel_rfl) hS (y_fieldO (by rfl) rfl rfl fld_r4 rfl) ?_
                      simp only [Act.put, List.setIfInBounds_toArray, List.set_cons_zero, List.set_cons_succ]
                      refine mf_yield (i := 13) (d := 157) (.bool false) rfl rfl (by kernel_rfl) (by kernel_rfl) (by kernel_rfl) (by kernel_rfl) hS (y_cell1 (by rfl) rfl rfl Try.underlying4 rfl (fun w' h => by rw [h]; exact c4)) ?_
                      simp only [Act.put, List.setIfInBounds_toArray, List.set_cons_zero, List.set_cons_succ]
                      refine mf_yield (i := 14) (d := 158) (.bool true) rfl rfl (by kernel_rfl) (by kernel_rfl) (by kernel_rfl) (by kernel_rfl) hS (y_not (b := false) (by rfl) rfl rfl) ?_
                      simp only [Act.put, List.setIfInBounds_toArray, List.set_cons_zero, List.set_cons_succ]
                      refine mf_yield (i := 15) (d := 159) (.bool true) rfl rfl (by kernel_rfl) (by kernel_rfl) (by kernel_rfl) (by kernel_rfl) hS (y_run (by rfl) fun _ => by rfl) ?_
                      simp only [Act.put, List.setIfInBounds_toArray, List.set_cons_zero, List.set_cons_succ]
                      refine mf_yield (i := 16) (d := 160) (.bool false) rfl rfl (by kernel_rfl) (by kernel_rfl) (by kernel_rfl) (by kernel_rfl) hS (y_run (by rfl) fun _ => by rfl) ?_
                      simp only [Act.put, List.setIfInBounds_toArray, List.set_cons_zero, List.set_cons_succ]
                      refine mf_yield (i := 17) (d := 161) (.bool true) rfl rfl (by kernel_rfl) (by kernel_rfl) (by kernel_rfl) (by kernel_rfl) hS (y_not (b := false) (by rfl) rfl rfl) ?_
                      simp only [Act.put, List.setIfInBounds_toArray, List.set_cons_zero, List.set_cons_succ]
                      refine mf_yield (i := 18) (d := 162) (.bool true) rfl rfl (by kernel_rfl) (by kernel_rfl) (by kernel_rfl) (by kernel_rfl) hS (y_run (by rfl) fun _ => by rfl) ?_
                      simp only [Act.put, List.setIfInBounds_toArray, List.set_cons_zero, List.set_cons_succ]
                      refine mf_yield (i := 19) (d := 163) (.bool true) rfl rfl (by kernel_rfl) (by kernel_rfl) (by kernel_rfl) (by kernel_rfl) hS (y_run (by rfl) fun _ => by rfl) ?_
                      simp only [Act.put, List.setIfInBounds_toArray, List.set_cons_zero, List.set_cons_succ]
                      refine mf_yield (i := 20) (d := 164) (.int .i64 1) rfl rfl (by kernel_rfl) (by kernel_rfl) (by kernel_rfl) (by kernel_rfl) hS (y_run (by rfl) fun _ => by rfl) ?_
                      simp only [Act.put, List.setIfInBounds_toArray, List.set_cons_zero, List.set_cons_succ]
                      refine mf_yield (i := 21) (d := 165) (.bool false) rfl rfl (by kernel_rfl) (by kernel_rfl) (by kernel_rfl) (by kernel_rfl) hS (y_neo (by rfl) rfl rfl rfl rfl) ?_
                      simp only [Act.put, List.setIfInBounds_toArray, List.set_cons_zero, List.set_cons_succ]
                      refine mf_yield (i := 22) (d := 166) (.bool false) rfl rfl (by kernel_rfl) (by kernel_rfl) (by kernel_rfl) (by kernel_rfl) hS (y_run (by rfl) fun _ => by rfl) ?_
                      simp only [Act.put, List.setIfInBounds_toArray, List.set_cons_zero, List.set_cons_succ]
                      refine mf_yield (i := 23) (d := 167) (.bool false) rfl rfl (by kernel_rfl) (by kernel_rfl) (by kernel_rfl) (by kernel_rfl) hS (y_run (by rfl) fun _ => by rfl) ?_
                      simp only [Act.put, List.setIfInBounds_toArray, List.set_cons_zero, List.set_cons_succ]
                      refine mf_yield (i := 24) (d := 168) (.bool false) rfl rfl (by kernel_rfl) (by kernel_rfl) (by kernel_rfl) (by kernel_rfl) hS (y_run (by rfl) fun _ => by rfl) ?_
                      simp only [Act.put, List.setIfInBounds_toArray, List.set_cons_zero, List.set_cons_succ]
                      refine mf_yield (i := 25) (d := 169) (.pointer (some ⟨gx, 4, none⟩)) rfl rfl (by kernel_rfl) (by kernel_rfl) (by kernel_rfl) (by kernel_rfl) hS (y_fieldO (by rfl) rfl rfl fld_r4 rfl) ?_
                      simp only [Act.put, List.setIfInBounds_toArray, List.set_cons_zero, List.set_cons_succ]
                      refine mf_yield (i := 26) (d := 170) (.bool false) rfl rfl (by kernel_rfl) (by kernel_rfl) (by kernel_rfl) (by kernel_rfl) hS (y_cell1 (by rfl) rfl rfl Try.underlying4 rfl (fun w' h => by rw [h]; exact c4)) ?_
                      simp only [Act.put, List.setIfInBounds_toArray, List.set_cons_zero, List.set_cons_succ]
                      refine mf_yield (i := 27) (d := 171) (.bool true) rfl rfl (by kernel_rfl) (by kernel_rfl) (by kernel_rfl) (by kernel_rfl) hS (y_not (b := false) (by rfl) rfl rfl) ?_
                      simp only [Act.put, List.setIfInBounds_toArray, List.set_cons_zero, List.set_cons_succ]
                      refine mf_yield (i := 28) (d := 172) (.bool true) rfl rfl (by kernel_rfl) (by kernel_rfl) (by kernel_rfl) (by kernel_rfl) hS (y_run (by rfl) fun _ => by rfl) ?_
                      simp only [Act.put, List.setIfInBounds_toArray, List.set_cons_zero, List.set_cons_succ]
                      refine mf_yield (i := 29) (d := 173) (.bool false) rfl rfl (by kernel_rfl) (by kernel_rfl) (by kernel_rfl) (by kernel_rfl) hS (y_run (by rfl) fun _ => by rfl) ?_
                      simp only [Act.put, List.setIfInBounds_toArray, List.set_cons_zero, List.set_cons_succ]
                      refine mf_yield (i := 30) (d := 174) (.bool false) rfl rfl (by kernel_rfl) (by kernel_rfl) (by kernel_rfl) (by kernel_rfl) hS (y_run (by rfl) fun _ => by rfl) ?_
                      simp only [Act.put, List.setIfInBounds_toArray, List.set_cons_zero, List.set_cons_succ]
                      refine mf_yield (i := 31) (d := 175) (.bool false) rfl rfl (by kernel_rfl) (by kernel_rfl) (by kernel_rfl) (by kernel_rfl) hS (y_run (by rfl) fun _ => by rfl) ?_
                      simp only [Act.put, List.setIfInBounds_toArray, List.set_cons_zero, List.set_cons_succ]
                      refine mf_yield (i := 32) (d := 176) undef rfl rfl (by kernel_rfl) (by kernel_rfl) (by kernel_rfl) (by kernel_rfl) hS (y_skip (by rfl)) ?_
                      simp only [Act.put, List.setIfInBounds_toArray, List.set_cons_zero, List.set_cons_succ]
                      refine mf_yield (i := 33) (d := 177) undef rfl rfl (by kernel_rfl) (by kernel_rfl) (by kernel_rfl) (by kernel_rfl) hS (y_skip (by rfl)) ?_
                      simp only [Act.put, List.setIfInBounds_toArray, List.set_cons_zero, List.set_cons_succ]
                      refine mf_yield (i := 34) (d := 178) undef rfl rfl (by kernel_rfl) (by kernel_rfl) (by kernel_rfl) (by kernel_rfl) hS (y_skip (by rfl)) ?_
                      simp only [Act.put, List.setIfInBounds_toArray, List.set_cons_zero, List.set_cons_succ]
                      refine mf_yield (i := 35) (d := 179) undef rfl rfl (by kernel_rfl) (by kernel_rfl) (by kernel_rfl) (by kernel_rfl) hS (y_skip (by rfl)) ?_
                      simp only [Act.put, List.setIfInBounds_toArray, List.set_cons_zero, List.set_cons_succ]
                      refine mf_yield (i := 36) (d := 180) undef rfl rfl (by kernel_rfl) (by kernel_rfl) (by kernel_rfl) (by kernel_rfl) hS (y_skip (by rfl)) ?_
                      simp only [Act.put, List.setIfInBounds_toArray, List.set_cons_zero, List.set_cons_succ]
                      refine mf_yield (i := 37) (d := 181) undef rfl rfl (by kernel_rfl) (by kernel_rfl) (by kernel_rfl) (by kernel_rfl) hS (y_skip (by rfl)) ?_
                      simp only [Act.put, List.setIfInBounds_toArray, List.set_cons_zero, List.set_cons_succ]
                      refine mf_yield (i := 38) (d := 182) undef rfl rfl (by kernel_rfl) (by kernel_rfl) (by kernel_rfl) (by kernel_rfl) hS (y_skip (by rfl)) ?_
                      simp only [Act.put, List.setIfInBounds_toArray, List.set_cons_zero, List.set_cons_succ]
                      refine mf_yield (i := 39) (d := 183) undef rfl rfl (by kernel_rfl) (by kernel_rfl) (by kernel_rfl) (by kernel_rfl) hS (y_skip (by rfl)) ?_
                      simp only [Act.put, List.setIfInBounds_toArray, List.set_cons_zero, List.set_cons_succ]
                      refine mf_yield (i := 40) (d := 184) undef rfl rfl (by kernel_rfl) (by kernel_rfl) (by kernel_rfl) (by kernel_rfl) hS (y_skip (by rfl)) ?_
                      simp only [Act.put, List.setIfInBounds_toArray, List.set_cons_zero, List.set_cons_succ]
                      refine mf_yield (i := 41) (d := 185) undef rfl rfl (by kernel_rfl) (by kernel_rfl) (by kernel_rfl) (by kernel_rfl) hS (y_skip (by rfl)) ?_
                      simp only [Act.put, List.setIfInBounds_toArray, List.set_cons_zero, List.set_cons_succ]
                      refine mf_yield (i := 42) (d := 186) undef rfl rfl (by kernel_rfl) (by kernel_rfl) (by kernel_rfl) (by kernel_rfl) hS (y_skip (by rfl)) ?_
                      simp only [Act.put, List.setIfInBounds_toArray, List.set_cons_zero, List.set_cons_succ]
                      refine mf_yield (i := 43) (d := 187) (.bool false) rfl rfl (by kernel_rfl) (by kernel_rfl) (by kernel_rfl) (by kernel_rfl) hS (y_run (by rfl) fun _ => by rfl) ?_
                      simp only [Act.put, List.setIfInBounds_toArray, List.set_cons_zero, List.set_cons_succ]
                      refine mf_yield (i := 44) (d := 188) (.bool false) rfl rfl (by kernel_rfl) (by kernel_rfl) (by kernel_rfl) (by kernel_rfl) hS (y_run (by rfl) fun _ => by rfl) ?_
                      simp only [Act.put, List.setIfInBounds_toArray, List.set_cons_zero, List.set_cons_succ]
                      refine mf_done (by kernel_rfl) ?_
                      have HP6 := Lib.hid HP5.out.drew
                      have d4 : W5.drew.cell? ⟨gx, 4, none⟩ = some (.bool false) := c4
                      clear hS HP5 HVp c4
                      revert d4; revert HP6
                      generalize W5.drew = W6
                      intro HP6 d4
                      have HRV := Lib.hid (show (d.readD z).reads z = 0 by rw [HRD.out]; exact HPl.out.out z (by have := HDZ.out; have := HSZ.out; omega))
                      go_wp2_with fail
                      refine mf_start (fun w' => w' = W6.drew) (fun _ => false) rfl fun hS => ?_
                      refine mf_yield (i := 0) (d := 201) (.bool false) rfl rfl (by kernel_rfl) (by kernel_rfl) (by kernel_rfl) (by kernel_rfl) hS (y_run (by rfl) fun _ => by rfl) ?_
                      simp only [Act.put, List.setIfInBounds_toArray, List.set_cons_zero, List.set_cons_succ]
                      refine mf_yield (i := 1) (d := 202) (.bool false) rfl rfl (by kernel_rfl) (by kernel_rfl) (by kernel_rfl) (by kernel_rfl) hS (y_run (by rfl) fun _ => by rfl) ?_
                      simp only [Act.put, List.setIfInBounds_toArray, List.set_cons_zero, List.set_cons_succ]
                      refine mf_yield (i := 2) (d := 203) undef rfl rfl (by kernel_rfl) (by kernel_rfl) (by kernel_rfl) (by kernel_rfl) hS (y_skip (by rfl)) ?_
                      simp only [Act.put, List.setIfInBounds_toArray, List.set_cons_zero, List.set_cons_succ]
                      refine mf_yield (i := 3) (d := 204) undef rfl rfl (by kernel_rfl) (by kernel_rfl) (by kernel_rfl) (by kernel_rfl) hS (y_skip (by rfl)) ?_
                      simp only [Act.put, List.setIfInBounds_toArray, List.set_cons_zero, List.set_cons_succ]
                      refine mf_yield (i := 4) (d := 205) undef rfl rfl (by kernel_rfl) (by kernel_rfl) (by kernel_rfl) (by kernel_rfl) hS (y_skip (by rfl)) ?_
                      simp only [Act.put, List.setIfInBounds_toArray, List.set_cons_zero, List.set_cons_succ]
                      refine mf_yield (i := 5) (d := 206) undef rfl rfl (by kernel_rfl) (by kernel_rfl) (by kernel_rfl) (by kernel_rfl) hS (y_skip (by rfl)) ?_
                      simp only [Act.put, List.setIfInBounds_toArray, List.set_cons_zero, List.set_cons_succ]
                      refine mf_yield (i := 6) (d := 207) undef rfl rfl (by kernel_rfl) (by kernel_rfl) (by kernel_rfl) (by kernel_rfl) hS (y_skip (by rfl)) ?_
                      simp only [Act.put, List.setIfInBounds_toArray, List.set_cons_zero, List.set_cons_succ]
                      refine mf_yield (i := 7) (d := 208) undef rfl rfl (by kernel_rfl) (by kernel_rfl) (by kernel_rfl) (by kernel_rfl) hS (y_skip (by rfl)) ?_
                      simp only [Act.put, List.setIfInBounds_toArray, List.set_cons_zero, List.set_cons_succ]
                      refine mf_yield (i := 8) (d := 209) undef rfl rfl (by kernel_rfl) (by kernel_rfl) (by kernel_rfl) (by kernel_rfl) hS (y_skip (by rfl)) ?_
                      simp only [Act.put, List.setIfInBounds_toArray, List.set_cons_zero, List.set_cons_succ]
                      refine mf_yield (i := 9) (d := 210) undef rfl rfl (by kernel_rfl) (by kernel_rfl) (by kernel_rfl) (by kernel_rfl) hS (y_skip (by rfl)) ?_
                      simp only [Act.put, List.setIfInBounds_toArray, List.set_cons_zero, List.set_cons_succ]
                      refine mf_yield (i := 10) (d := 211) (.bool false) rfl rfl (by kernel_rfl) (by kernel_rfl) (by kernel_rfl) (by kernel_rfl) hS (y_run (by rfl) fun _ => by rfl) ?_
                      simp only [Act.put, List.setIfInBounds_toArray, List.set_cons_zero, List.set_cons_succ]
                      refine mf_yield (i := 11) (d := 212) (.bool false) rfl rfl (by kernel_rfl) (by kernel_rfl) (by kernel_rfl) (by kernel_rfl) hS (y_run (by rfl) fun _ => by rfl) ?_
                      simp only [Act.put, List.setIfInBounds_toArray, List.set_cons_zero, List.set_cons_succ]
                      refine mf_yield (i := 12) (d := 213) (.bool false) rfl rfl (by kernel_rfl) (by kernel_rfl) (by kernel_rfl) (by kernel_rfl) hS (y_run (by rfl) fun _ => by rfl) ?_
                      simp only [Act.put, List.setIfInBounds_toArray, List.set_cons_zero, List.set_cons_succ]
                      refine mf_yield (i := 13) (d := 214) (.bool true) rfl rfl (by kernel_rfl) (by kernel_rfl) (by kernel_rfl) (by kernel_rfl) hS (y_not (b := false) (by rfl) rfl rfl) ?_
                      simp only [Act.put, List.setIfInBounds_toArray, List.set_cons_zero, List.set_cons_succ]
                      refine mf_yield (i := 14) (d := 215) (.bool true) rfl rfl (by kernel_rfl) (by kernel_rfl) (by kernel_rfl) (by kernel_rfl) hS (y_run (by rfl) fun _ => by rfl) ?_
                      simp only [Act.put, List.setIfInBounds_toArray, List.set_cons_zero, List.set_cons_succ]
                      refine mf_yield (i := 15) (d := 216) (.pointer (some ⟨b, 0, none⟩)) rfl rfl (by kernel_rfl) (by kernel_rfl) (by kernel_rfl) (by kernel_rfl) hS (y_run (by rfl) fun _ => by rfl) ?_
                      simp only [Act.put, List.setIfInBounds_toArray, List.set_cons_zero, List.set_cons_succ]
                      refine mf_yield (i := 16) (d := 217) (.int .i64 z) rfl rfl (by kernel_rfl) (by kernel_rfl) (by kernel_rfl) (by kernel_rfl) hS (y_run (by rfl) fun _ => by rfl) ?_
                      simp only [Act.put, List.setIfInBounds_toArray, List.set_cons_zero, List.set_cons_succ]
                      refine mf_ready [17] (by kernel_rfl) (by simp) (af_call (i := 17) (d := 218) (R := fun v w' => v = .int .i64 0 ∧ w' = W6.drew) #[.pointer (some ⟨b, 0, none⟩), .int .i64 z] rfl rfl (by rfl) rfl enter_reads (by kernel_rfl) ((reads_L HP6.out.dk.drew z HWF.out).mono fun e w' h => ⟨.int .i64 0, by rw [h.1, HRV.out], rfl, h.2⟩) (fun v w' h => h.2) ?_ AllReadyF.nil)
                      rintro v w8 ⟨rfl, rfl⟩ hS8
                      simp only [Act.put, List.setIfInBounds_toArray, List.set_cons_zero, List.set_cons_succ]
                      refine mf_yield (i := 18) (d := 219) (.bool false) rfl rfl (by kernel_rfl) (by kernel_rfl) (by kernel_rfl) (by kernel_rfl) hS8 (y_nei (by rfl) rfl rfl rfl (bne_self_eq_false _)) ?_
                      simp only [Act.put, List.setIfInBounds_toArray, List.set_cons_zero, List.set_cons_succ]
                      refine mf_yield (i := 19) (d := 220) (.bool false) rfl rfl (by kernel_rfl) (by kernel_rfl) (by kernel_rfl) (by kernel_rfl) hS8 (y_run (by rfl) fun _ => by rfl) ?_
                      simp only [Act.put, List.setIfInBounds_toArray, List.set_cons_zero, List.set_cons_succ]
                      refine mf_yield (i := 20) (d := 221) (.bool false) rfl rfl (by kernel_rfl) (by kernel_rfl) (by kernel_rfl) (by kernel_rfl) hS8 (y_run (by rfl) fun _ => by rfl) ?_
                      simp only [Act.put, List.setIfInBounds_toArray, List.set_cons_zero, List.set_cons_succ]
                      refine mf_done (by kernel_rfl) ?_
                      have HX := Lib.hid (show PlS w b (63 * k + 1 + (m + 1)) gx rb size (k + 1) size W6.drew from ⟨_, _, d.readD z, _, by rw [HRD.out]; exact (HP6.out.readX z).drew.mono (by omega), by rw [HSN.out.2]; exact hdn2, by rw [HSN.out.1]; exact HDZ.out⟩)
                      clear hS hS8 HP6
                      go_wp2_with fail
                      go_roundw
                      case rel => exact ⟨m + 1, by have := HZM.out; have := HSZ.out; omega, by have := HZM.out; simp only [Value.int.injEq, true_and]; omega, HX⟩
                      case measure => simp [intOf]; have := HSZ.out; omega
                  · as_aux_lemma =>
                      have hre : d.reach z = 7 := (Dsk.reach_all d _).1 hdn
                      have HWF := Lib.hid (show (Lit.int .i64 (z : Int)).wf = true from WalkArith.wf_i64 (by omega))
                      have hrp : d.readP zP z = zP := by unfold Dsk.readP; rw [if_neg (by rw [hre]; omega)]
                      have HRD := Lib.hid (show (d.readD z).reads = d.reads by unfold Dsk.readD; rw [if_neg (by rw [hre]; omega)])
                      have HSN := Lib.hid (readD_sn d z)
                      go_wp2_with fail
                      refine (read_L HPl.out.dk z HWF.out (by omega)).mono ?_
                      rintro e w5 ⟨rfl, hd5, hk5⟩
                      rw [hre, hrp]
                      have HP5 := Lib.hid ((HPl.out.disk hd5 hk5 HSN.out.1 (HPl.out.fit.1.read z)).alloc (.cells zP 36))
                      have HVp := Lib.hid (At.new w5 zP 36)
                      clear hd5 hk5 hre hrp
                      go_wp2_with (refine wpList_store_row rfl 36 _ _ rfl w5.heap.size zP rfl rfl _ _ (heap_alloc_new _ _) (info_pag PZ.out) (rfl) PZ.out.one ?_; rw [World.setRow_alloc_new])
                      revert HVp; revert HP5
                      generalize Plus G w5.heap.size = G5
                      generalize w5.heap.size = gp
                      generalize World.alloc _ _ = W5
                      intro HP5 HVp
                      have c4 : W5.cell? ⟨gx, 4, none⟩ = some (.bool true) := by rw [← hdn]; exact HP5.out.cells.1
                      refine mf_start (fun w' => w' = W5.drew) (fun _ => false) rfl fun hS => ?_
                      refine mf_yield (i := 0) (d := 144) (.pointer (some ⟨gx, 4, none⟩)) rfl rfl (by kernel_rfl) (by kernel_rfl) (by kernel_rfl) (by kernel_rfl) hS (y_fieldO (by rfl) rfl rfl fld_r4 rfl) ?_
                      simp only [Act.put, List.setIfInBounds_toArray, List.set_cons_zero, List.set_cons_succ]
                      refine mf_yield (i := 1) (d := 145) (.bool true) rfl rfl (by kernel_rfl) (by kernel_rfl) (by kernel_rfl) (by kernel_rfl) hS (y_cell1 (by rfl) rfl rfl Try.underlying4 rfl (fun w' h => by rw [h]; exact c4)) ?_
                      simp only [Act.put, List.setIfInBounds_toArray, List.set_cons_zero, List.set_cons_succ]
                      refine mf_yield (i := 2) (d := 146) (.bool true) rfl rfl (by kernel_rfl) (by kernel_rfl) (by kernel_rfl) (by kernel_rfl) hS (y_run (by rfl) fun _ => by rfl) ?_
                      simp only [Act.put, List.setIfInBounds_toArray, List.set_cons_zero, List.set_cons_succ]
                      refine mf_yield (i := 3) (d := 147) (.int .i64 7) rfl rfl (by kernel_rfl) (by kernel_rfl) (by kernel_rfl) (by kernel_rfl) hS (y_run (by rfl) fun _ => by rfl) ?_
                      simp only [Act.put, List.setIfInBounds_toArray, List.set_cons_zero, List.set_cons_succ]
                      refine mf_yield (i := 4) (d := 148) (.bool false) rfl rfl (by kernel_rfl) (by kernel_rfl) (by kernel_rfl) (by kernel_rfl) hS (y_neo (by rfl) rfl rfl rfl rfl) ?_
                      simp only [Act.put, List.setIfInBounds_toArray, List.set_cons_zero, List.set_cons_succ]
                      refine mf_yield (i := 5) (d := 149) (.bool false) rfl rfl (by kernel_rfl) (by kernel_rfl) (by kernel_rfl) (by kernel_rfl) hS (y_run (by rfl) fun _ => by rfl) ?_
                      simp only [Act.put, List.setIfInBounds_toArray, List.set_cons_zero, List.set_cons_succ]
                      refine mf_yield (i := 6) (d := 150) (.agg zP) rfl rfl (by kernel_rfl) (by kernel_rfl) (by kernel_rfl) (by kernel_rfl) hS (y_load_range (by rfl) rfl rfl (fun w' h => by rw [h]; exact At.rng HVp.out) Try.underlying36 rfl (info_pag PZ.out)) ?_
                      simp only [Act.put, List.setIfInBounds_toArray, List.set_cons_zero, List.set_cons_succ]
                      refine mf_yield (i := 7) (d := 151) (.agg zP) rfl rfl (by kernel_rfl) (by kernel_rfl) (by kernel_rfl) (by kernel_rfl) hS (y_build_parts (L := []) (by rfl) rfl _ rfl built_z) ?_
                      simp only [Act.put, List.setIfInBounds_toArray, List.set_cons_zero, List.set_cons_succ]
                      refine mf_yield (i := 8) (d := 152) (.bool false) rfl rfl (by kernel_rfl) (by kernel_rfl) (by kernel_rfl) (by kernel_rfl) hS (y_neq (b := true) (by rfl) rfl rfl rfl (by kernel_rfl) (same_page PZ.out)) ?_
                      simp only [Act.put, List.setIfInBounds_toArray, List.set_cons_zero, List.set_cons_succ]
                      refine mf_yield (i := 9) (d := 153) (.bool false) rfl rfl (by kernel_rfl) (by kernel_rfl) (by kernel_rfl) (by kernel_rfl) hS (y_run (by rfl) fun _ => by rfl) ?_
                      simp only [Act.put, List.setIfInBounds_toArray, List.set_cons_zero, List.set_cons_succ]
                      refine mf_yield (i := 10) (d := 154) (.bool false) rfl rfl (by kernel_rfl) (by kernel_rfl) (by kernel_rfl) (by kernel_rfl) hS (y_run (by rfl) fun _ => by rfl) ?_
                      simp only [Act.put, List.setIfInBounds_toArray, List.set_cons_zero, List.set_cons_succ]
                      refine mf_yield (i := 11) (d := 155) (.bool false) rfl rfl (by kernel_rfl) (by kernel_rfl) (by kernel_rfl) (by kernel_rfl) hS (y_run (by rfl) fun _ => by rfl) ?_
                      simp only [Act.put, List.setIfInBounds_toArray, List.set_cons_zero, List.set_cons_succ]
                      refine mf_yield (i := 12) (d := 156) (.pointer (some ⟨gx, 4, none⟩)) rfl rfl (by kernel_rfl) (by kernel_rfl) (by kernel_rfl) (by kernel_rfl) hS (y_fieldO (by rfl) rfl rfl fld_r4 rfl) ?_
                      simp only [Act.put, List.setIfInBounds_toArray, List.set_cons_zero, List.set_cons_succ]
                      refine mf_yield (i := 13) (d := 157) (.bool true) rfl rfl (by kernel_rfl) (by kernel_rfl) (by kernel_rfl) (by kernel_rfl) hS (y_cell1 (by rfl) rfl rfl Try.underlying4 rfl (fun w' h => by rw [h]; exact c4)) ?_
                      simp only [Act.put, List.setIfInBounds_toArray, List.set_cons_zero, List.set_cons_succ]
                      refine mf_yield (i := 14) (d := 158) (.bool false) rfl rfl (by kernel_rfl) (by kernel_rfl) (by kernel_rfl) (by kernel_rfl) hS (y_not (b := true) (by rfl) rfl rfl) ?_
                      simp only [Act.put, List.setIfInBounds_toArray, List.set_cons_zero, List.set_cons_succ]
                      refine mf_yield (i := 15) (d := 159) (.bool false) rfl rfl (by kernel_rfl) (by kernel_rfl) (by kernel_rfl) (by kernel_rfl) hS (y_run (by rfl) fun _ => by rfl) ?_
                      simp only [Act.put, List.setIfInBounds_toArray, List.set_cons_zero, List.set_cons_succ]
                      refine mf_yield (i := 16) (d := 160) undef rfl rfl (by kernel_rfl) (by kernel_rfl) (by kernel_rfl) (by kernel_rfl) hS (y_skip (by rfl)) ?_
                      simp only [Act.put, List.setIfInBounds_toArray, List.set_cons_zero, List.set_cons_succ]
                      refine mf_yield (i := 17) (d := 161) undef rfl rfl (by kernel_rfl) (by kernel_rfl) (by kernel_rfl) (by kernel_rfl) hS (y_skip (by rfl)) ?_
                      simp only [Act.put, List.setIfInBounds_toArray, List.set_cons_zero, List.set_cons_succ]
                      refine mf_yield (i := 18) (d := 162) (.bool false) rfl rfl (by kernel_rfl) (by kernel_rfl) (by kernel_rfl) (by kernel_rfl) hS (y_run (by rfl) fun _ => by rfl) ?_
                      simp only [Act.put, List.setIfInBounds_toArray, List.set_cons_zero, List.set_cons_succ]
                      refine mf_yield (i := 19) (d := 163) (.bool false) rfl rfl (by kernel_rfl) (by kernel_rfl) (by kernel_rfl) (by kernel_rfl) hS (y_run (by rfl) fun _ => by rfl) ?_
                      simp only [Act.put, List.setIfInBounds_toArray, List.set_cons_zero, List.set_cons_succ]
                      refine mf_yield (i := 20) (d := 164) undef rfl rfl (by kernel_rfl) (by kernel_rfl) (by kernel_rfl) (by kernel_rfl) hS (y_skip (by rfl)) ?_
                      simp only [Act.put, List.setIfInBounds_toArray, List.set_cons_zero, List.set_cons_succ]
                      refine mf_yield (i := 21) (d := 165) undef rfl rfl (by kernel_rfl) (by kernel_rfl) (by kernel_rfl) (by kernel_rfl) hS (y_skip (by rfl)) ?_
                      simp only [Act.put, List.setIfInBounds_toArray, List.set_cons_zero, List.set_cons_succ]
                      refine mf_yield (i := 22) (d := 166) (.bool false) rfl rfl (by kernel_rfl) (by kernel_rfl) (by kernel_rfl) (by kernel_rfl) hS (y_run (by rfl) fun _ => by rfl) ?_
                      simp only [Act.put, List.setIfInBounds_toArray, List.set_cons_zero, List.set_cons_succ]
                      refine mf_yield (i := 23) (d := 167) (.bool false) rfl rfl (by kernel_rfl) (by kernel_rfl) (by kernel_rfl) (by kernel_rfl) hS (y_run (by rfl) fun _ => by rfl) ?_
                      simp only [Act.put, List.setIfInBounds_toArray, List.set_cons_zero, List.set_cons_succ]
                      refine mf_yield (i := 24) (d := 168) (.bool false) rfl rfl (by kernel_rfl) (by kernel_rfl) (by kernel_rfl) (by kernel_rfl) hS (y_run (by rfl) fun _ => by rfl) ?_
                      simp only [Act.put, List.setIfInBounds_toArray, List.set_cons_zero, List.set_cons_succ]
                      refine mf_yield (i := 25) (d := 169) (.pointer (some ⟨gx, 4, none⟩)) rfl rfl (by kernel_rfl) (by kernel_rfl) (by kernel_rfl) (by kernel_rfl) hS (y_fieldO (by rfl) rfl rfl fld_r4 rfl) ?_
                      simp only [Act.put, List.setIfInBounds_toArray, List.set_cons_zero, List.set_cons_succ]
                      refine mf_yield (i := 26) (d := 170) (.bool true) rfl rfl (by kernel_rfl) (by kernel_rfl) (by kernel_rfl) (by kernel_rfl) hS (y_cell1 (by rfl) rfl rfl Try.underlying4 rfl (fun w' h => by rw [h]; exact c4)) ?_
                      simp only [Act.put, List.setIfInBounds_toArray, List.set_cons_zero, List.set_cons_succ]
                      refine mf_yield (i := 27) (d := 171) (.bool false) rfl rfl (by kernel_rfl) (by kernel_rfl) (by kernel_rfl) (by kernel_rfl) hS (y_not (b := true) (by rfl) rfl rfl) ?_
                      simp only [Act.put, List.setIfInBounds_toArray, List.set_cons_zero, List.set_cons_succ]
                      refine mf_yield (i := 28) (d := 172) (.bool false) rfl rfl (by kernel_rfl) (by kernel_rfl) (by kernel_rfl) (by kernel_rfl) hS (y_run (by rfl) fun _ => by rfl) ?_
                      simp only [Act.put, List.setIfInBounds_toArray, List.set_cons_zero, List.set_cons_succ]
                      refine mf_yield (i := 29) (d := 173) undef rfl rfl (by kernel_rfl) (by kernel_rfl) (by kernel_rfl) (by kernel_rfl) hS (y_skip (by rfl)) ?_
                      simp only [Act.put, List.setIfInBounds_toArray, List.set_cons_zero, List.set_cons_succ]
                      refine mf_yield (i := 30) (d := 174) (.bool false) rfl rfl (by kernel_rfl) (by kernel_rfl) (by kernel_rfl) (by kernel_rfl) hS (y_run (by rfl) fun _ => by rfl) ?_
                      simp only [Act.put, List.setIfInBounds_toArray, List.set_cons_zero, List.set_cons_succ]
                      refine mf_yield (i := 31) (d := 175) (.bool false) rfl rfl (by kernel_rfl) (by kernel_rfl) (by kernel_rfl) (by kernel_rfl) hS (y_run (by rfl) fun _ => by rfl) ?_
                      simp only [Act.put, List.setIfInBounds_toArray, List.set_cons_zero, List.set_cons_succ]
                      refine mf_yield (i := 32) (d := 176) undef rfl rfl (by kernel_rfl) (by kernel_rfl) (by kernel_rfl) (by kernel_rfl) hS (y_skip (by rfl)) ?_
                      simp only [Act.put, List.setIfInBounds_toArray, List.set_cons_zero, List.set_cons_succ]
                      refine mf_yield (i := 33) (d := 177) undef rfl rfl (by kernel_rfl) (by kernel_rfl) (by kernel_rfl) (by kernel_rfl) hS (y_skip (by rfl)) ?_
                      simp only [Act.put, List.setIfInBounds_toArray, List.set_cons_zero, List.set_cons_succ]
                      refine mf_yield (i := 34) (d := 178) undef rfl rfl (by kernel_rfl) (by kernel_rfl) (by kernel_rfl) (by kernel_rfl) hS (y_skip (by rfl)) ?_
                      simp only [Act.put, List.setIfInBounds_toArray, List.set_cons_zero, List.set_cons_succ]
                      refine mf_yield (i := 35) (d := 179) undef rfl rfl (by kernel_rfl) (by kernel_rfl) (by kernel_rfl) (by kernel_rfl) hS (y_skip (by rfl)) ?_
                      simp only [Act.put, List.setIfInBounds_toArray, List.set_cons_zero, List.set_cons_succ]
                      refine mf_yield (i := 36) (d := 180) undef rfl rfl (by kernel_rfl) (by kernel_rfl) (by kernel_rfl) (by kernel_rfl) hS (y_skip (by rfl)) ?_
                      simp only [Act.put, List.setIfInBounds_toArray, List.set_cons_zero, List.set_cons_succ]
                      refine mf_yield (i := 37) (d := 181) undef rfl rfl (by kernel_rfl) (by kernel_rfl) (by kernel_rfl) (by kernel_rfl) hS (y_skip (by rfl)) ?_
                      simp only [Act.put, List.setIfInBounds_toArray, List.set_cons_zero, List.set_cons_succ]
                      refine mf_yield (i := 38) (d := 182) undef rfl rfl (by kernel_rfl) (by kernel_rfl) (by kernel_rfl) (by kernel_rfl) hS (y_skip (by rfl)) ?_
                      simp only [Act.put, List.setIfInBounds_toArray, List.set_cons_zero, List.set_cons_succ]
                      refine mf_yield (i := 39) (d := 183) undef rfl rfl (by kernel_rfl) (by kernel_rfl) (by kernel_rfl) (by kernel_rfl) hS (y_skip (by rfl)) ?_
                      simp only [Act.put, List.setIfInBounds_toArray, List.set_cons_zero, List.set_cons_succ]
                      refine mf_yield (i := 40) (d := 184) undef rfl rfl (by kernel_rfl) (by kernel_rfl) (by kernel_rfl) (by kernel_rfl) hS (y_skip (by rfl)) ?_
                      simp only [Act.put, List.setIfInBounds_toArray, List.set_cons_zero, List.set_cons_succ]
                      refine mf_yield (i := 41) (d := 185) undef rfl rfl (by kernel_rfl) (by kernel_rfl) (by kernel_rfl) (by kernel_rfl) hS (y_skip (by rfl)) ?_
                      simp only [Act.put, List.setIfInBounds_toArray, List.set_cons_zero, List.set_cons_succ]
                      refine mf_yield (i := 42) (d := 186) undef rfl rfl (by kernel_rfl) (by kernel_rfl) (by kernel_rfl) (by kernel_rfl) hS (y_skip (by rfl)) ?_
                      simp only [Act.put, List.setIfInBounds_toArray, List.set_cons_zero, List.set_cons_succ]
                      refine mf_yield (i := 43) (d := 187) (.bool false) rfl rfl (by kernel_rfl) (by kernel_rfl) (by kernel_rfl) (by kernel_rfl) hS (y_run (by rfl) fun _ => by rfl) ?_
                      simp only [Act.put, List.setIfInBounds_toArray, List.set_cons_zero, List.set_cons_succ]
                      refine mf_yield (i := 44) (d := 188) (.bool false) rfl rfl (by kernel_rfl) (by kernel_rfl) (by kernel_rfl) (by kernel_rfl) hS (y_run (by rfl) fun _ => by rfl) ?_
                      simp only [Act.put, List.setIfInBounds_toArray, List.set_cons_zero, List.set_cons_succ]
                      refine mf_done (by kernel_rfl) ?_
                      have HP6 := Lib.hid HP5.out.drew
                      have d4 : W5.drew.cell? ⟨gx, 4, none⟩ = some (.bool true) := c4
                      clear hS HP5 HVp c4
                      revert d4; revert HP6
                      generalize W5.drew = W6
                      intro HP6 d4
                      have HRV := Lib.hid (show (d.readD z).reads z = 0 by rw [HRD.out]; exact HPl.out.out z (by have := HDZ.out; have := HSZ.out; omega))
                      go_wp2_with fail
                      refine mf_start (fun w' => w' = W6.drew) (fun _ => false) rfl fun hS => ?_
                      refine mf_yield (i := 0) (d := 201) (.bool false) rfl rfl (by kernel_rfl) (by kernel_rfl) (by kernel_rfl) (by kernel_rfl) hS (y_run (by rfl) fun _ => by rfl) ?_
                      simp only [Act.put, List.setIfInBounds_toArray, List.set_cons_zero, List.set_cons_succ]
                      refine mf_yield (i := 1) (d := 202) (.bool false) rfl rfl (by kernel_rfl) (by kernel_rfl) (by kernel_rfl) (by kernel_rfl) hS (y_run (by rfl) fun _ => by rfl) ?_
                      simp only [Act.put, List.setIfInBounds_toArray, List.set_cons_zero, List.set_cons_succ]
                      refine mf_yield (i := 2) (d := 203) undef rfl rfl (by kernel_rfl) (by kernel_rfl) (by kernel_rfl) (by kernel_rfl) hS (y_skip (by rfl)) ?_
                      simp only [Act.put, List.setIfInBounds_toArray, List.set_cons_zero, List.set_cons_succ]
                      refine mf_yield (i := 3) (d := 204) undef rfl rfl (by kernel_rfl) (by kernel_rfl) (by kernel_rfl) (by kernel_rfl) hS (y_skip (by rfl)) ?_
                      simp only [Act.put, List.setIfInBounds_toArray, List.set_cons_zero, List.set_cons_succ]
                      refine mf_yield (i := 4) (d := 205) undef rfl rfl (by kernel_rfl) (by kernel_rfl) (by kernel_rfl) (by kernel_rfl) hS (y_skip (by rfl)) ?_
                      simp only [Act.put, List.setIfInBounds_toArray, List.set_cons_zero, List.set_cons_succ]
                      refine mf_yield (i := 5) (d := 206) undef rfl rfl (by kernel_rfl) (by kernel_rfl) (by kernel_rfl) (by kernel_rfl) hS (y_skip (by rfl)) ?_
                      simp only [Act.put, List.setIfInBounds_toArray, List.set_cons_zero, List.set_cons_succ]
                      refine mf_yield (i := 6) (d := 207) undef rfl rfl (by kernel_rfl) (by kernel_rfl) (by kernel_rfl) (by kernel_rfl) hS (y_skip (by rfl)) ?_
                      simp only [Act.put, List.setIfInBounds_toArray, List.set_cons_zero, List.set_cons_succ]
                      refine mf_yield (i := 7) (d := 208) undef rfl rfl (by kernel_rfl) (by kernel_rfl) (by kernel_rfl) (by kernel_rfl) hS (y_skip (by rfl)) ?_
                      simp only [Act.put, List.setIfInBounds_toArray, List.set_cons_zero, List.set_cons_succ]
                      refine mf_yield (i := 8) (d := 209) undef rfl rfl (by kernel_rfl) (by kernel_rfl) (by kernel_rfl) (by kernel_rfl) hS (y_skip (by rfl)) ?_
                      simp only [Act.put, List.setIfInBounds_toArray, List.set_cons_zero, List.set_cons_succ]
                      refine mf_yield (i := 9) (d := 210) undef rfl rfl (by kernel_rfl) (by kernel_rfl) (by kernel_rfl) (by kernel_rfl) hS (y_skip (by rfl)) ?_
                      simp only [Act.put, List.setIfInBounds_toArray, List.set_cons_zero, List.set_cons_succ]
                      refine mf_yield (i := 10) (d := 211) (.bool false) rfl rfl (by kernel_rfl) (by kernel_rfl) (by kernel_rfl) (by kernel_rfl) hS (y_run (by rfl) fun _ => by rfl) ?_
                      simp only [Act.put, List.setIfInBounds_toArray, List.set_cons_zero, List.set_cons_succ]
                      refine mf_yield (i := 11) (d := 212) (.bool false) rfl rfl (by kernel_rfl) (by kernel_rfl) (by kernel_rfl) (by kernel_rfl) hS (y_run (by rfl) fun _ => by rfl) ?_
                      simp only [Act.put, List.setIfInBounds_toArray, List.set_cons_zero, List.set_cons_succ]
                      refine mf_yield (i := 12) (d := 213) (.bool false) rfl rfl (by kernel_rfl) (by kernel_rfl) (by kernel_rfl) (by kernel_rfl) hS (y_run (by rfl) fun _ => by rfl) ?_
                      simp only [Act.put, List.setIfInBounds_toArray, List.set_cons_zero, List.set_cons_succ]
                      refine mf_yield (i := 13) (d := 214) (.bool true) rfl rfl (by kernel_rfl) (by kernel_rfl) (by kernel_rfl) (by kernel_rfl) hS (y_not (b := false) (by rfl) rfl rfl) ?_
                      simp only [Act.put, List.setIfInBounds_toArray, List.set_cons_zero, List.set_cons_succ]
                      refine mf_yield (i := 14) (d := 215) (.bool true) rfl rfl (by kernel_rfl) (by kernel_rfl) (by kernel_rfl) (by kernel_rfl) hS (y_run (by rfl) fun _ => by rfl) ?_
                      simp only [Act.put, List.setIfInBounds_toArray, List.set_cons_zero, List.set_cons_succ]
                      refine mf_yield (i := 15) (d := 216) (.pointer (some ⟨b, 0, none⟩)) rfl rfl (by kernel_rfl) (by kernel_rfl) (by kernel_rfl) (by kernel_rfl) hS (y_run (by rfl) fun _ => by rfl) ?_
                      simp only [Act.put, List.setIfInBounds_toArray, List.set_cons_zero, List.set_cons_succ]
                      refine mf_yield (i := 16) (d := 217) (.int .i64 z) rfl rfl (by kernel_rfl) (by kernel_rfl) (by kernel_rfl) (by kernel_rfl) hS (y_run (by rfl) fun _ => by rfl) ?_
                      simp only [Act.put, List.setIfInBounds_toArray, List.set_cons_zero, List.set_cons_succ]
                      refine mf_ready [17] (by kernel_rfl) (by simp) (af_call (i := 17) (d := 218) (R := fun v w' => v = .int .i64 0 ∧ w' = W6.drew) #[.pointer (some ⟨b, 0, none⟩), .int .i64 z] rfl rfl (by rfl) rfl enter_reads (by kernel_rfl) ((reads_L HP6.out.dk.drew z HWF.out).mono fun e w' h => ⟨.int .i64 0, by rw [h.1, HRV.out], rfl, h.2⟩) (fun v w' h => h.2) ?_ AllReadyF.nil)
                      rintro v w8 ⟨rfl, rfl⟩ hS8
                      simp only [Act.put, List.setIfInBounds_toArray, List.set_cons_zero, List.set_cons_succ]
                      refine mf_yield (i := 18) (d := 219) (.bool false) rfl rfl (by kernel_rfl) (by kernel_rfl) (by kernel_rfl) (by kernel_rfl) hS8 (y_nei (by rfl) rfl rfl rfl (bne_self_eq_false _)) ?_
                      simp only [Act.put, List.setIfInBounds_toArray, List.set_cons_zero, List.set_cons_succ]
                      refine mf_yield (i := 19) (d := 220) (.bool false) rfl rfl (by kernel_rfl) (by kernel_rfl) (by kernel_rfl) (by kernel_rfl) hS8 (y_run (by rfl) fun _ => by rfl) ?_
                      simp only [Act.put, List.setIfInBounds_toArray, List.set_cons_zero, List.set_cons_succ]
                      refine mf_yield (i := 20) (d := 221) (.bool false) rfl rfl (by kernel_rfl) (by kernel_rfl) (by kernel_rfl) (by kernel_rfl) hS8 (y_run (by rfl) fun _ => by rfl) ?_
                      simp only [Act.put, List.setIfInBounds_toArray, List.set_cons_zero, List.set_cons_succ]
                      refine mf_done (by kernel_rfl) ?_
                      have HX := Lib.hid (show PlS w b (63 * k + 1 + (m + 1)) gx rb size (k + 1) size W6.drew from ⟨_, _, d.readD z, _, by rw [HRD.out]; exact (HP6.out.readX z).drew.mono (by omega), by rw [HSN.out.2]; exact hdn2, by rw [HSN.out.1]; exact HDZ.out⟩)
                      clear hS hS8 HP6
                      go_wp2_with fail
                      go_roundw
                      case rel => exact ⟨m + 1, by have := HZM.out; have := HSZ.out; omega, by have := HZM.out; simp only [Value.int.injEq, true_and]; omega, HX⟩
                      case measure => simp [intOf]; have := HSZ.out; omega
                · have hz00 : 0 ≤ z := by omega
                  by_cases hzs : z < sz
                  · cases hdn : d.down
                    · as_aux_lemma =>
                        obtain ⟨kk, hkk⟩ : ∃ kk : Nat, z = kk := ⟨z.toNat, by omega⟩
                        subst hkk
                        have hkz : kk < size := by have := HSZ.out; omega
                        have hkd : kk < d.size := by rw [HDZ.out]; exact hkz
                        have hre : d.reach (kk : Nat) = 0 := (Dsk.reach_all d _).2.1 hdn (by omega) (by have := HDZ.out; omega)
                        have HWF := Lib.hid (show (Lit.int .i64 ((kk : Nat) : Int)).wf = true from WalkArith.wf_i64 (by omega))
                        have hrp : d.readP zP (kk : Nat) = d.seen (kk : Nat) := by unfold Dsk.readP; rw [if_pos hre]
                        have HRD := Lib.hid (show (d.readD (kk : Nat)).reads = (fun j : Int => if j = ((kk : Nat) : Int) then d.reads j + 1 else d.reads j) by unfold Dsk.readD; rw [if_pos hre]; rfl)
                        have HXP := Lib.hid (HPl.out.dk.seen (kk : Nat))
                        obtain ⟨X, hX⟩ : ∃ X, d.seen (kk : Nat) = X := ⟨_, rfl⟩
                        have HXE := Lib.hid hX
                        rw [hX] at hrp HXP
                        clear hX
                        have HSN := Lib.hid (readD_sn d (kk : Nat))
                        go_wp2_with fail
                        refine (read_L HPl.out.dk (kk : Nat) HWF.out (by omega)).mono ?_
                        rintro e w5 ⟨rfl, hd5, hk5⟩
                        rw [hre, hrp]
                        have HP5 := Lib.hid ((HPl.out.disk hd5 hk5 HSN.out.1 (HPl.out.fit.1.read (kk : Nat))).alloc (.cells X 36))
                        have HVp := Lib.hid (At.new w5 X 36)
                        clear hd5 hk5 hre hrp
                        go_wp2_with (refine wpList_store_row rfl 36 _ _ rfl w5.heap.size X rfl rfl _ _ (heap_alloc_new _ _) (info_pag HXP.out) (by rw [HXP.out.size]; exact pag_z.size) HXP.out.one ?_; rw [World.setRow_alloc_new])
                        revert HVp; revert HP5
                        generalize Plus G w5.heap.size = G5
                        generalize w5.heap.size = gp
                        generalize World.alloc _ _ = W5
                        intro HP5 HVp
                        have c4 : W5.cell? ⟨gx, 4, none⟩ = some (.bool false) := by rw [← hdn]; exact HP5.out.cells.1
                        obtain ⟨a1, c1, a2, c2, e1, _, hs1⟩ := HP5.out.seen
                        obtain ⟨b1, o1, ha1, _, hr1⟩ := hs1.range hkd
                        subst ha1
                        rw [HXE.out] at hr1
                        rw [HDZ.out] at e1
                        refine mf_start (fun w' => w' = W5.drew) (fun _ => false) rfl fun hS => ?_
                        refine mf_yield (i := 0) (d := 144) (.pointer (some ⟨gx, 4, none⟩)) rfl rfl (by kernel_rfl) (by kernel_rfl) (by kernel_rfl) (by kernel_rfl) hS (y_fieldO (by rfl) rfl rfl fld_r4 rfl) ?_
                        simp only [Act.put, List.setIfInBounds_toArray, List.set_cons_zero, List.set_cons_succ]
                        refine mf_yield (i := 1) (d := 145) (.bool false) rfl rfl (by kernel_rfl) (by kernel_rfl) (by kernel_rfl) (by kernel_rfl) hS (y_cell1 (by rfl) rfl rfl Try.underlying4 rfl (fun w' h => by rw [h]; exact c4)) ?_
                        simp only [Act.put, List.setIfInBounds_toArray, List.set_cons_zero, List.set_cons_succ]
                        refine mf_yield (i := 2) (d := 146) (.bool false) rfl rfl (by kernel_rfl) (by kernel_rfl) (by kernel_rfl) (by kernel_rfl) hS (y_run (by rfl) fun _ => by rfl) ?_
                        simp only [Act.put, List.setIfInBounds_toArray, List.set_cons_zero, List.set_cons_succ]
                        refine mf_yield (i := 3) (d := 147) undef rfl rfl (by kernel_rfl) (by kernel_rfl) (by kernel_rfl) (by kernel_rfl) hS (y_skip (by rfl)) ?_
                        simp only [Act.put, List.setIfInBounds_toArray, List.set_cons_zero, List.set_cons_succ]
                        refine mf_yield (i := 4) (d := 148) undef rfl rfl (by kernel_rfl) (by kernel_rfl) (by kernel_rfl) (by kernel_rfl) hS (y_skip (by rfl)) ?_
                        simp only [Act.put, List.setIfInBounds_toArray, List.set_cons_zero, List.set_cons_succ]
                        refine mf_yield (i := 5) (d := 149) undef rfl rfl (by kernel_rfl) (by kernel_rfl) (by kernel_rfl) (by kernel_rfl) hS (y_skip (by rfl)) ?_
                        simp only [Act.put, List.setIfInBounds_toArray, List.set_cons_zero, List.set_cons_succ]
                        refine mf_yield (i := 6) (d := 150) undef rfl rfl (by kernel_rfl) (by kernel_rfl) (by kernel_rfl) (by kernel_rfl) hS (y_skip (by rfl)) ?_
                        simp only [Act.put, List.setIfInBounds_toArray, List.set_cons_zero, List.set_cons_succ]
                        refine mf_yield (i := 7) (d := 151) undef rfl rfl (by kernel_rfl) (by kernel_rfl) (by kernel_rfl) (by kernel_rfl) hS (y_skip (by rfl)) ?_
                        simp only [Act.put, List.setIfInBounds_toArray, List.set_cons_zero, List.set_cons_succ]
                        refine mf_yield (i := 8) (d := 152) undef rfl rfl (by kernel_rfl) (by kernel_rfl) (by kernel_rfl) (by kernel_rfl) hS (y_skip (by rfl)) ?_
                        simp only [Act.put, List.setIfInBounds_toArray, List.set_cons_zero, List.set_cons_succ]
                        refine mf_yield (i := 9) (d := 153) undef rfl rfl (by kernel_rfl) (by kernel_rfl) (by kernel_rfl) (by kernel_rfl) hS (y_skip (by rfl)) ?_
                        simp only [Act.put, List.setIfInBounds_toArray, List.set_cons_zero, List.set_cons_succ]
                        refine mf_yield (i := 10) (d := 154) (.bool false) rfl rfl (by kernel_rfl) (by kernel_rfl) (by kernel_rfl) (by kernel_rfl) hS (y_run (by rfl) fun _ => by rfl) ?_
                        simp only [Act.put, List.setIfInBounds_toArray, List.set_cons_zero, List.set_cons_succ]
                        refine mf_yield (i := 11) (d := 155) (.bool false) rfl rfl (by kernel_rfl) (by kernel_rfl) (by kernel_rfl) (by kernel_rfl) hS (y_run (by rfl) fun _ => by rfl) ?_
                        simp only [Act.put, List.setIfInBounds_toArray, List.set_cons_zero, List.set_cons_succ]
                        refine mf_yield (i := 12) (d := 156) (.pointer (some ⟨gx, 4, none⟩)) rfl rfl (by kernel_rfl) (by kernel_rfl) (by kernel_rfl) (by kernel_rfl) hS (y_fieldO (by rfl) rfl rfl fld_r4 rfl) ?_
                        simp only [Act.put, List.setIfInBounds_toArray, List.set_cons_zero, List.set_cons_succ]
                        refine mf_yield (i := 13) (d := 157) (.bool false) rfl rfl (by kernel_rfl) (by kernel_rfl) (by kernel_rfl) (by kernel_rfl) hS (y_cell1 (by rfl) rfl rfl Try.underlying4 rfl (fun w' h => by rw [h]; exact c4)) ?_
                        simp only [Act.put, List.setIfInBounds_toArray, List.set_cons_zero, List.set_cons_succ]
                        refine mf_yield (i := 14) (d := 158) (.bool true) rfl rfl (by kernel_rfl) (by kernel_rfl) (by kernel_rfl) (by kernel_rfl) hS (y_not (b := false) (by rfl) rfl rfl) ?_
                        simp only [Act.put, List.setIfInBounds_toArray, List.set_cons_zero, List.set_cons_succ]
                        refine mf_yield (i := 15) (d := 159) (.bool true) rfl rfl (by kernel_rfl) (by kernel_rfl) (by kernel_rfl) (by kernel_rfl) hS (y_run (by rfl) fun _ => by rfl) ?_
                        simp only [Act.put, List.setIfInBounds_toArray, List.set_cons_zero, List.set_cons_succ]
                        refine mf_yield (i := 16) (d := 160) (.bool true) rfl rfl (by kernel_rfl) (by kernel_rfl) (by kernel_rfl) (by kernel_rfl) hS (y_run (by rfl) fun _ => by rfl) ?_
                        simp only [Act.put, List.setIfInBounds_toArray, List.set_cons_zero, List.set_cons_succ]
                        refine mf_yield (i := 17) (d := 161) (.bool false) rfl rfl (by kernel_rfl) (by kernel_rfl) (by kernel_rfl) (by kernel_rfl) hS (y_not (b := true) (by rfl) rfl rfl) ?_
                        simp only [Act.put, List.setIfInBounds_toArray, List.set_cons_zero, List.set_cons_succ]
                        refine mf_yield (i := 18) (d := 162) (.bool false) rfl rfl (by kernel_rfl) (by kernel_rfl) (by kernel_rfl) (by kernel_rfl) hS (y_run (by rfl) fun _ => by rfl) ?_
                        simp only [Act.put, List.setIfInBounds_toArray, List.set_cons_zero, List.set_cons_succ]
                        refine mf_yield (i := 19) (d := 163) (.bool false) rfl rfl (by kernel_rfl) (by kernel_rfl) (by kernel_rfl) (by kernel_rfl) hS (y_run (by rfl) fun _ => by rfl) ?_
                        simp only [Act.put, List.setIfInBounds_toArray, List.set_cons_zero, List.set_cons_succ]
                        refine mf_yield (i := 20) (d := 164) undef rfl rfl (by kernel_rfl) (by kernel_rfl) (by kernel_rfl) (by kernel_rfl) hS (y_skip (by rfl)) ?_
                        simp only [Act.put, List.setIfInBounds_toArray, List.set_cons_zero, List.set_cons_succ]
                        refine mf_yield (i := 21) (d := 165) undef rfl rfl (by kernel_rfl) (by kernel_rfl) (by kernel_rfl) (by kernel_rfl) hS (y_skip (by rfl)) ?_
                        simp only [Act.put, List.setIfInBounds_toArray, List.set_cons_zero, List.set_cons_succ]
                        refine mf_yield (i := 22) (d := 166) (.bool false) rfl rfl (by kernel_rfl) (by kernel_rfl) (by kernel_rfl) (by kernel_rfl) hS (y_run (by rfl) fun _ => by rfl) ?_
                        simp only [Act.put, List.setIfInBounds_toArray, List.set_cons_zero, List.set_cons_succ]
                        refine mf_yield (i := 23) (d := 167) (.bool false) rfl rfl (by kernel_rfl) (by kernel_rfl) (by kernel_rfl) (by kernel_rfl) hS (y_run (by rfl) fun _ => by rfl) ?_
                        simp only [Act.put, List.setIfInBounds_toArray, List.set_cons_zero, List.set_cons_succ]
                        refine mf_yield (i := 24) (d := 168) (.bool false) rfl rfl (by kernel_rfl) (by kernel_rfl) (by kernel_rfl) (by kernel_rfl) hS (y_run (by rfl) fun _ => by rfl) ?_
                        simp only [Act.put, List.setIfInBounds_toArray, List.set_cons_zero, List.set_cons_succ]
                        refine mf_yield (i := 25) (d := 169) (.pointer (some ⟨gx, 4, none⟩)) rfl rfl (by kernel_rfl) (by kernel_rfl) (by kernel_rfl) (by kernel_rfl) hS (y_fieldO (by rfl) rfl rfl fld_r4 rfl) ?_
                        simp only [Act.put, List.setIfInBounds_toArray, List.set_cons_zero, List.set_cons_succ]
                        refine mf_yield (i := 26) (d := 170) (.bool false) rfl rfl (by kernel_rfl) (by kernel_rfl) (by kernel_rfl) (by kernel_rfl) hS (y_cell1 (by rfl) rfl rfl Try.underlying4 rfl (fun w' h => by rw [h]; exact c4)) ?_
                        simp only [Act.put, List.setIfInBounds_toArray, List.set_cons_zero, List.set_cons_succ]
                        refine mf_yield (i := 27) (d := 171) (.bool true) rfl rfl (by kernel_rfl) (by kernel_rfl) (by kernel_rfl) (by kernel_rfl) hS (y_not (b := false) (by rfl) rfl rfl) ?_
                        simp only [Act.put, List.setIfInBounds_toArray, List.set_cons_zero, List.set_cons_succ]
                        refine mf_yield (i := 28) (d := 172) (.bool true) rfl rfl (by kernel_rfl) (by kernel_rfl) (by kernel_rfl) (by kernel_rfl) hS (y_run (by rfl) fun _ => by rfl) ?_
                        simp only [Act.put, List.setIfInBounds_toArray, List.set_cons_zero, List.set_cons_succ]
                        refine mf_yield (i := 29) (d := 173) (.bool true) rfl rfl (by kernel_rfl) (by kernel_rfl) (by kernel_rfl) (by kernel_rfl) hS (y_run (by rfl) fun _ => by rfl) ?_
                        simp only [Act.put, List.setIfInBounds_toArray, List.set_cons_zero, List.set_cons_succ]
                        refine mf_yield (i := 30) (d := 174) (.bool true) rfl rfl (by kernel_rfl) (by kernel_rfl) (by kernel_rfl) (by kernel_rfl) hS (y_run (by rfl) fun _ => by rfl) ?_
                        simp only [Act.put, List.setIfInBounds_toArray, List.set_cons_zero, List.set_cons_succ]
                        refine mf_yield (i := 31) (d := 175) (.bool true) rfl rfl (by kernel_rfl) (by kernel_rfl) (by kernel_rfl) (by kernel_rfl) hS (y_run (by rfl) fun _ => by rfl) ?_
                        simp only [Act.put, List.setIfInBounds_toArray, List.set_cons_zero, List.set_cons_succ]
                        refine mf_yield (i := 32) (d := 176) (.int .i64 0) rfl rfl (by kernel_rfl) (by kernel_rfl) (by kernel_rfl) (by kernel_rfl) hS (y_run (by rfl) fun _ => by rfl) ?_
                        simp only [Act.put, List.setIfInBounds_toArray, List.set_cons_zero, List.set_cons_succ]
                        refine mf_yield (i := 33) (d := 177) (.bool false) rfl rfl (by kernel_rfl) (by kernel_rfl) (by kernel_rfl) (by kernel_rfl) hS (y_neo (by rfl) rfl rfl rfl rfl) ?_
                        simp only [Act.put, List.setIfInBounds_toArray, List.set_cons_zero, List.set_cons_succ]
                        refine mf_yield (i := 34) (d := 178) (.bool false) rfl rfl (by kernel_rfl) (by kernel_rfl) (by kernel_rfl) (by kernel_rfl) hS (y_run (by rfl) fun _ => by rfl) ?_
                        simp only [Act.put, List.setIfInBounds_toArray, List.set_cons_zero, List.set_cons_succ]
                        refine mf_yield (i := 35) (d := 179) (.agg X) rfl rfl (by kernel_rfl) (by kernel_rfl) (by kernel_rfl) (by kernel_rfl) hS (y_load_range (by rfl) rfl rfl (fun w' h => by rw [h]; exact At.rng HVp.out) Try.underlying36 rfl (info_pag HXP.out)) ?_
                        simp only [Act.put, List.setIfInBounds_toArray, List.set_cons_zero, List.set_cons_succ]
                        refine mf_yield (i := 36) (d := 180) (.pointer (some ⟨gx, 1, none⟩)) rfl rfl (by kernel_rfl) (by kernel_rfl) (by kernel_rfl) (by kernel_rfl) hS (y_fieldO (by rfl) rfl rfl fld_r1 rfl) ?_
                        simp only [Act.put, List.setIfInBounds_toArray, List.set_cons_zero, List.set_cons_succ]
                        refine mf_yield (i := 37) (d := 181) (.slice ((some ⟨b1, o1, none⟩)) size c1) rfl rfl (by kernel_rfl) (by kernel_rfl) (by kernel_rfl) (by kernel_rfl) hS (y_cell1 (by rfl) rfl rfl Try.underlying30 rfl (fun w' h => by rw [h]; exact e1)) ?_
                        simp only [Act.put, List.setIfInBounds_toArray, List.set_cons_zero, List.set_cons_succ]
                        refine mf_yield (i := 38) (d := 182) (.int .i64 ((kk : Nat))) rfl rfl (by kernel_rfl) (by kernel_rfl) (by kernel_rfl) (by kernel_rfl) hS (y_run (by rfl) fun _ => by rfl) ?_
                        simp only [Act.put, List.setIfInBounds_toArray, List.set_cons_zero, List.set_cons_succ]
                        refine mf_yield (i := 39) (d := 183) (.pointer (some ⟨b1, (o1 + kk * 64), none⟩)) rfl rfl (by kernel_rfl) (by kernel_rfl) (by kernel_rfl) (by kernel_rfl) hS (y_ex elt_p (by rfl) rfl rfl rfl rfl hkz rfl) ?_
                        simp only [Act.put, List.setIfInBounds_toArray, List.set_cons_zero, List.set_cons_succ]
                        refine mf_yield (i := 40) (d := 184) (.agg X) rfl rfl (by kernel_rfl) (by kernel_rfl) (by kernel_rfl) (by kernel_rfl) hS (y_load_range (by rfl) rfl rfl (fun w' h => by rw [h]; exact hr1) Try.underlying35 rfl (info_pag HXP.out)) ?_
                        simp only [Act.put, List.setIfInBounds_toArray, List.set_cons_zero, List.set_cons_succ]
                        refine mf_yield (i := 41) (d := 185) (.bool false) rfl rfl (by kernel_rfl) (by kernel_rfl) (by kernel_rfl) (by kernel_rfl) hS (y_neq (b := true) (by rfl) rfl rfl rfl (by kernel_rfl) (same_page HXP.out)) ?_
                        simp only [Act.put, List.setIfInBounds_toArray, List.set_cons_zero, List.set_cons_succ]
                        refine mf_yield (i := 42) (d := 186) (.bool false) rfl rfl (by kernel_rfl) (by kernel_rfl) (by kernel_rfl) (by kernel_rfl) hS (y_run (by rfl) fun _ => by rfl) ?_
                        simp only [Act.put, List.setIfInBounds_toArray, List.set_cons_zero, List.set_cons_succ]
                        refine mf_yield (i := 43) (d := 187) (.bool false) rfl rfl (by kernel_rfl) (by kernel_rfl) (by kernel_rfl) (by kernel_rfl) hS (y_run (by rfl) fun _ => by rfl) ?_
                        simp only [Act.put, List.setIfInBounds_toArray, List.set_cons_zero, List.set_cons_succ]
                        refine mf_yield (i := 44) (d := 188) (.bool false) rfl rfl (by kernel_rfl) (by kernel_rfl) (by kernel_rfl) (by kernel_rfl) hS (y_run (by rfl) fun _ => by rfl) ?_
                        simp only [Act.put, List.setIfInBounds_toArray, List.set_cons_zero, List.set_cons_succ]
                        refine mf_done (by kernel_rfl) ?_
                        have HP6 := Lib.hid HP5.out.drew
                        have d4 : W5.drew.cell? ⟨gx, 4, none⟩ = some (.bool false) := c4
                        clear hS HP5 HVp c4 e1 hs1 hr1
                        revert d4; revert HP6
                        generalize W5.drew = W6
                        intro HP6 d4
                        obtain ⟨cr, fr⟩ := HP6.out.rdAt (k := kk) (by rw [HSN.out.1]; exact hkd)
                        have hrb0 := HPl.out.dk.num.2.2 (kk : Nat)
                        obtain ⟨r, hr⟩ : ∃ r, d.reads (kk : Nat) = r := ⟨_, rfl⟩
                        have HRE := Lib.hid hr
                        rw [hr] at cr hrb0
                        obtain ⟨hrb1, hrb2⟩ := hrb0
                        have rx2 := run_ex (g := rb) (o := 0) (n := size) (c := size) elt_i hkz
                        rw [Nat.zero_add, Nat.mul_one] at rx2
                        have HRV := Lib.hid (show (d.readD (kk : Nat)).reads (kk : Nat) = r + 1 by rw [HRD.out, ← hr]; simp only [if_true])
                        have HP7 := Lib.hid (HP6.out.count (k := kk) (by rw [HSN.out.1]; exact hkd))
                        rw [hr] at HP7
                        clear hr
                        go_wp2_with (first
                          | (refine wpList_store1 rfl 3 _ _ rfl (p := ⟨rb, kk, none⟩) (v := .int .i64 (r + 1)) rfl rfl (by kernel_rfl) rfl cr fr ?_
                             clear cr fr d4 HP6
                             revert HP7
                             generalize World.setCell _ _ _ = W7
                             intro HP7))
                        obtain ⟨cr, _⟩ := HP7.out.rdAt (k := kk) (by rw [HSN.out.1]; exact hkd)
                        rw [HRE.out] at cr
                        simp only [if_true] at cr
                        refine mf_start (fun w' => w' = W7.drew) (fun _ => false) rfl fun hS => ?_
                        refine mf_yield (i := 0) (d := 201) (.bool true) rfl rfl (by kernel_rfl) (by kernel_rfl) (by kernel_rfl) (by kernel_rfl) hS (y_run (by rfl) fun _ => by rfl) ?_
                        simp only [Act.put, List.setIfInBounds_toArray, List.set_cons_zero, List.set_cons_succ]
                        refine mf_yield (i := 1) (d := 202) (.bool true) rfl rfl (by kernel_rfl) (by kernel_rfl) (by kernel_rfl) (by kernel_rfl) hS (y_run (by rfl) fun _ => by rfl) ?_
                        simp only [Act.put, List.setIfInBounds_toArray, List.set_cons_zero, List.set_cons_succ]
                        refine mf_yield (i := 2) (d := 203) (.pointer (some ⟨b, 0, none⟩)) rfl rfl (by kernel_rfl) (by kernel_rfl) (by kernel_rfl) (by kernel_rfl) hS (y_run (by rfl) fun _ => by rfl) ?_
                        simp only [Act.put, List.setIfInBounds_toArray, List.set_cons_zero, List.set_cons_succ]
                        refine mf_yield (i := 3) (d := 204) (.int .i64 ((kk : Nat))) rfl rfl (by kernel_rfl) (by kernel_rfl) (by kernel_rfl) (by kernel_rfl) hS (y_run (by rfl) fun _ => by rfl) ?_
                        simp only [Act.put, List.setIfInBounds_toArray, List.set_cons_zero, List.set_cons_succ]
                        refine mf_yield (i := 5) (d := 206) (.slice ((some ⟨rb, 0, none⟩)) size size) rfl rfl (by kernel_rfl) (by kernel_rfl) (by kernel_rfl) (by kernel_rfl) hS (y_run (by rfl) fun _ => by rfl) ?_
                        simp only [Act.put, List.setIfInBounds_toArray, List.set_cons_zero, List.set_cons_succ]
                        refine mf_yield (i := 6) (d := 207) (.int .i64 ((kk : Nat))) rfl rfl (by kernel_rfl) (by kernel_rfl) (by kernel_rfl) (by kernel_rfl) hS (y_run (by rfl) fun _ => by rfl) ?_
                        simp only [Act.put, List.setIfInBounds_toArray, List.set_cons_zero, List.set_cons_succ]
                        refine mf_yield (i := 7) (d := 208) (.pointer (some ⟨rb, kk, none⟩)) rfl rfl (by kernel_rfl) (by kernel_rfl) (by kernel_rfl) (by kernel_rfl) hS (y_ex elt_i (by rfl) rfl rfl rfl rfl hkz (by omega)) ?_
                        simp only [Act.put, List.setIfInBounds_toArray, List.set_cons_zero, List.set_cons_succ]
                        refine mf_yield (i := 8) (d := 209) (.int .i64 ((r + 1))) rfl rfl (by kernel_rfl) (by kernel_rfl) (by kernel_rfl) (by kernel_rfl) hS (y_cell1 (by rfl) rfl rfl Try.underlying3 rfl (fun w' h => by rw [h]; exact cr)) ?_
                        simp only [Act.put, List.setIfInBounds_toArray, List.set_cons_zero, List.set_cons_succ]
                        refine mf_ready [4] (by kernel_rfl) (by simp) (af_call (i := 4) (d := 205) (R := fun v w' => v = .int .i64 (r + 1) ∧ w' = W7.drew) #[.pointer (some ⟨b, 0, none⟩), .int .i64 (kk : Nat)] rfl rfl (by rfl) rfl enter_reads (by kernel_rfl) ((reads_L HP7.out.dk.drew (kk : Nat) HWF.out).mono fun e w' h => ⟨.int .i64 (r + 1), by rw [h.1, HRV.out], rfl, h.2⟩) (fun v w' h => h.2) ?_ AllReadyF.nil)
                        rintro v w8 ⟨rfl, rfl⟩ hS8
                        simp only [Act.put, List.setIfInBounds_toArray, List.set_cons_zero, List.set_cons_succ]
                        refine mf_yield (i := 9) (d := 210) (.bool false) rfl rfl (by kernel_rfl) (by kernel_rfl) (by kernel_rfl) (by kernel_rfl) hS8 (y_nei (by rfl) rfl rfl rfl (bne_self_eq_false _)) ?_
                        simp only [Act.put, List.setIfInBounds_toArray, List.set_cons_zero, List.set_cons_succ]
                        refine mf_yield (i := 10) (d := 211) (.bool false) rfl rfl (by kernel_rfl) (by kernel_rfl) (by kernel_rfl) (by kernel_rfl) hS8 (y_run (by rfl) fun _ => by rfl) ?_
                        simp only [Act.put, List.setIfInBounds_toArray, List.set_cons_zero, List.set_cons_succ]
                        refine mf_yield (i := 11) (d := 212) (.bool false) rfl rfl (by kernel_rfl) (by kernel_rfl) (by kernel_rfl) (by kernel_rfl) hS8 (y_run (by rfl) fun _ => by rfl) ?_
                        simp only [Act.put, List.setIfInBounds_toArray, List.set_cons_zero, List.set_cons_succ]
                        refine mf_yield (i := 12) (d := 213) (.bool true) rfl rfl (by kernel_rfl) (by kernel_rfl) (by kernel_rfl) (by kernel_rfl) hS8 (y_run (by rfl) fun _ => by rfl) ?_
                        simp only [Act.put, List.setIfInBounds_toArray, List.set_cons_zero, List.set_cons_succ]
                        refine mf_yield (i := 13) (d := 214) (.bool false) rfl rfl (by kernel_rfl) (by kernel_rfl) (by kernel_rfl) (by kernel_rfl) hS8 (y_not (b := true) (by rfl) rfl rfl) ?_
                        simp only [Act.put, List.setIfInBounds_toArray, List.set_cons_zero, List.set_cons_succ]
                        refine mf_yield (i := 14) (d := 215) (.bool false) rfl rfl (by kernel_rfl) (by kernel_rfl) (by kernel_rfl) (by kernel_rfl) hS8 (y_run (by rfl) fun _ => by rfl) ?_
                        simp only [Act.put, List.setIfInBounds_toArray, List.set_cons_zero, List.set_cons_succ]
                        refine mf_yield (i := 15) (d := 216) undef rfl rfl (by kernel_rfl) (by kernel_rfl) (by kernel_rfl) (by kernel_rfl) hS8 (y_skip (by rfl)) ?_
                        simp only [Act.put, List.setIfInBounds_toArray, List.set_cons_zero, List.set_cons_succ]
                        refine mf_yield (i := 16) (d := 217) undef rfl rfl (by kernel_rfl) (by kernel_rfl) (by kernel_rfl) (by kernel_rfl) hS8 (y_skip (by rfl)) ?_
                        simp only [Act.put, List.setIfInBounds_toArray, List.set_cons_zero, List.set_cons_succ]
                        refine mf_yield (i := 17) (d := 218) undef rfl rfl (by kernel_rfl) (by kernel_rfl) (by kernel_rfl) (by kernel_rfl) hS8 (y_skip (by rfl)) ?_
                        simp only [Act.put, List.setIfInBounds_toArray, List.set_cons_zero, List.set_cons_succ]
                        refine mf_yield (i := 18) (d := 219) undef rfl rfl (by kernel_rfl) (by kernel_rfl) (by kernel_rfl) (by kernel_rfl) hS8 (y_skip (by rfl)) ?_
                        simp only [Act.put, List.setIfInBounds_toArray, List.set_cons_zero, List.set_cons_succ]
                        refine mf_yield (i := 19) (d := 220) (.bool false) rfl rfl (by kernel_rfl) (by kernel_rfl) (by kernel_rfl) (by kernel_rfl) hS8 (y_run (by rfl) fun _ => by rfl) ?_
                        simp only [Act.put, List.setIfInBounds_toArray, List.set_cons_zero, List.set_cons_succ]
                        refine mf_yield (i := 20) (d := 221) (.bool false) rfl rfl (by kernel_rfl) (by kernel_rfl) (by kernel_rfl) (by kernel_rfl) hS8 (y_run (by rfl) fun _ => by rfl) ?_
                        simp only [Act.put, List.setIfInBounds_toArray, List.set_cons_zero, List.set_cons_succ]
                        refine mf_done (by kernel_rfl) ?_
                        have HX := Lib.hid (show PlS w b (63 * k + 1 + (m + 1)) gx rb size (k + 1) size W7.drew from ⟨_, _, d.readD (kk : Nat), _, by rw [HRD.out]; exact (HP7.out.readX (kk : Nat)).drew.mono (by omega), by rw [HSN.out.2]; exact hdn2, by rw [HSN.out.1]; exact HDZ.out⟩)
                        clear hS hS8 HP7 cr
                        go_wp2_with fail
                        go_roundw
                        case rel => exact ⟨m + 1, by have := HZM.out; have := HSZ.out; omega, by have := HZM.out; simp only [Value.int.injEq, true_and]; omega, HX⟩
                        case measure => simp [intOf]; have := HSZ.out; omega
                    · as_aux_lemma =>
                        obtain ⟨kk, hkk⟩ : ∃ kk : Nat, z = kk := ⟨z.toNat, by omega⟩
                        subst hkk
                        have hkz : kk < size := by have := HSZ.out; omega
                        have hkd : kk < d.size := by rw [HDZ.out]; exact hkz
                        have hre : d.reach (kk : Nat) = 7 := (Dsk.reach_all d _).1 hdn
                        have HWF := Lib.hid (show (Lit.int .i64 ((kk : Nat) : Int)).wf = true from WalkArith.wf_i64 (by omega))
                        have hrp : d.readP zP (kk : Nat) = zP := by unfold Dsk.readP; rw [if_neg (by rw [hre]; omega)]
                        have HRD := Lib.hid (show (d.readD (kk : Nat)).reads = d.reads by unfold Dsk.readD; rw [if_neg (by rw [hre]; omega)])
                        have HSN := Lib.hid (readD_sn d (kk : Nat))
                        go_wp2_with fail
                        refine (read_L HPl.out.dk (kk : Nat) HWF.out (by omega)).mono ?_
                        rintro e w5 ⟨rfl, hd5, hk5⟩
                        rw [hre, hrp]
                        have HP5 := Lib.hid ((HPl.out.disk hd5 hk5 HSN.out.1 (HPl.out.fit.1.read (kk : Nat))).alloc (.cells zP 36))
                        have HVp := Lib.hid (At.new w5 zP 36)
                        clear hd5 hk5 hre hrp
                        go_wp2_with (refine wpList_store_row rfl 36 _ _ rfl w5.heap.size zP rfl rfl _ _ (heap_alloc_new _ _) (info_pag PZ.out) (rfl) PZ.out.one ?_; rw [World.setRow_alloc_new])
                        revert HVp; revert HP5
                        generalize Plus G w5.heap.size = G5
                        generalize w5.heap.size = gp
                        generalize World.alloc _ _ = W5
                        intro HP5 HVp
                        have c4 : W5.cell? ⟨gx, 4, none⟩ = some (.bool true) := by rw [← hdn]; exact HP5.out.cells.1
                        refine mf_start (fun w' => w' = W5.drew) (fun _ => false) rfl fun hS => ?_
                        refine mf_yield (i := 0) (d := 144) (.pointer (some ⟨gx, 4, none⟩)) rfl rfl (by kernel_rfl) (by kernel_rfl) (by kernel_rfl) (by kernel_rfl) hS (y_fieldO (by rfl) rfl rfl fld_r4 rfl) ?_
                        simp only [Act.put, List.setIfInBounds_toArray, List.set_cons_zero, List.set_cons_succ]
                        refine mf_yield (i := 1) (d := 145) (.bool true) rfl rfl (by kernel_rfl) (by kernel_rfl) (by kernel_rfl) (by kernel_rfl) hS (y_cell1 (by rfl) rfl rfl Try.underlying4 rfl (fun w' h => by rw [h]; exact c4)) ?_
                        simp only [Act.put, List.setIfInBounds_toArray, List.set_cons_zero, List.set_cons_succ]
                        refine mf_yield (i := 2) (d := 146) (.bool true) rfl rfl (by kernel_rfl) (by kernel_rfl) (by kernel_rfl) (by kernel_rfl) hS (y_run (by rfl) fun _ => by rfl) ?_
                        simp only [Act.put, List.setIfInBounds_toArray, List.set_cons_zero, List.set_cons_succ]
                        refine mf_yield (i := 3) (d := 147) (.int .i64 7) rfl rfl (by kernel_rfl) (by kernel_rfl) (by kernel_rfl) (by kernel_rfl) hS (y_run (by rfl) fun _ => by rfl) ?_
                        simp only [Act.put, List.setIfInBounds_toArray, List.set_cons_zero, List.set_cons_succ]
                        refine mf_yield (i := 4) (d := 148) (.bool false) rfl rfl (by kernel_rfl) (by kernel_rfl) (by kernel_rfl) (by kernel_rfl) hS (y_neo (by rfl) rfl rfl rfl rfl) ?_
                        simp only [Act.put, List.setIfInBounds_toArray, List.set_cons_zero, List.set_cons_succ]
                        refine mf_yield (i := 5) (d := 149) (.bool false) rfl rfl (by kernel_rfl) (by kernel_rfl) (by kernel_rfl) (by kernel_rfl) hS (y_run (by rfl) fun _ => by rfl) ?_
                        simp only [Act.put, List.setIfInBounds_toArray, List.set_cons_zero, List.set_cons_succ]
                        refine mf_yield (i := 6) (d := 150) (.agg zP) rfl rfl (by kernel_rfl) (by kernel_rfl) (by kernel_rfl) (by kernel_rfl) hS (y_load_range (by rfl) rfl rfl (fun w' h => by rw [h]; exact At.rng HVp.out) Try.underlying36 rfl (info_pag PZ.out)) ?_
                        simp only [Act.put, List.setIfInBounds_toArray, List.set_cons_zero, List.set_cons_succ]
                        refine mf_yield (i := 7) (d := 151) (.agg zP) rfl rfl (by kernel_rfl) (by kernel_rfl) (by kernel_rfl) (by kernel_rfl) hS (y_build_parts (L := []) (by rfl) rfl _ rfl built_z) ?_
                        simp only [Act.put, List.setIfInBounds_toArray, List.set_cons_zero, List.set_cons_succ]
                        refine mf_yield (i := 8) (d := 152) (.bool false) rfl rfl (by kernel_rfl) (by kernel_rfl) (by kernel_rfl) (by kernel_rfl) hS (y_neq (b := true) (by rfl) rfl rfl rfl (by kernel_rfl) (same_page PZ.out)) ?_
                        simp only [Act.put, List.setIfInBounds_toArray, List.set_cons_zero, List.set_cons_succ]
                        refine mf_yield (i := 9) (d := 153) (.bool false) rfl rfl (by kernel_rfl) (by kernel_rfl) (by kernel_rfl) (by kernel_rfl) hS (y_run (by rfl) fun _ => by rfl) ?_
                        simp only [Act.put, List.setIfInBounds_toArray, List.set_cons_zero, List.set_cons_succ]
                        refine mf_yield (i := 10) (d := 154) (.bool false) rfl rfl (by kernel_rfl) (by kernel_rfl) (by kernel_rfl) (by kernel_rfl) hS (y_run (by rfl) fun _ => by rfl) ?_
                        simp only [Act.put, List.setIfInBounds_toArray, List.set_cons_zero, List.set_cons_succ]
                        refine mf_yield (i := 11) (d := 155) (.bool false) rfl rfl (by kernel_rfl) (by kernel_rfl) (by kernel_rfl) (by kernel_rfl) hS (y_run (by rfl) fun _ => by rfl) ?_
                        simp only [Act.put, List.setIfInBounds_toArray, List.set_cons_zero, List.set_cons_succ]
                        refine mf_yield (i := 12) (d := 156) (.pointer (some ⟨gx, 4, none⟩)) rfl rfl (by kernel_rfl) (by kernel_rfl) (by kernel_rfl) (by kernel_rfl) hS (y_fieldO (by rfl) rfl rfl fld_r4 rfl) ?_
                        simp only [Act.put, List.setIfInBounds_toArray, List.set_cons_zero, List.set_cons_succ]
                        refine mf_yield (i := 13) (d := 157) (.bool true) rfl rfl (by kernel_rfl) (by kernel_rfl) (by kernel_rfl) (by kernel_rfl) hS (y_cell1 (by rfl) rfl rfl Try.underlying4 rfl (fun w' h => by rw [h]; exact c4)) ?_
                        simp only [Act.put, List.setIfInBounds_toArray, List.set_cons_zero, List.set_cons_succ]
                        refine mf_yield (i := 14) (d := 158) (.bool false) rfl rfl (by kernel_rfl) (by kernel_rfl) (by kernel_rfl) (by kernel_rfl) hS (y_not (b := true) (by rfl) rfl rfl) ?_
                        simp only [Act.put, List.setIfInBounds_toArray, List.set_cons_zero, List.set_cons_succ]
                        refine mf_yield (i := 15) (d := 159) (.bool false) rfl rfl (by kernel_rfl) (by kernel_rfl) (by kernel_rfl) (by kernel_rfl) hS (y_run (by rfl) fun _ => by rfl) ?_
                        simp only [Act.put, List.setIfInBounds_toArray, List.set_cons_zero, List.set_cons_succ]
                        refine mf_yield (i := 16) (d := 160) undef rfl rfl (by kernel_rfl) (by kernel_rfl) (by kernel_rfl) (by kernel_rfl) hS (y_skip (by rfl)) ?_
                        simp only [Act.put, List.setIfInBounds_toArray, List.set_cons_zero, List.set_cons_succ]
                        refine mf_yield (i := 17) (d := 161) undef rfl rfl (by kernel_rfl) (by kernel_rfl) (by kernel_rfl) (by kernel_rfl) hS (y_skip (by rfl)) ?_
                        simp only [Act.put, List.setIfInBounds_toArray, List.set_cons_zero, List.set_cons_succ]
                        refine mf_yield (i := 18) (d := 162) (.bool false) rfl rfl (by kernel_rfl) (by kernel_rfl) (by kernel_rfl) (by kernel_rfl) hS (y_run (by rfl) fun _ => by rfl) ?_
                        simp only [Act.put, List.setIfInBounds_toArray, List.set_cons_zero, List.set_cons_succ]
                        refine mf_yield (i := 19) (d := 163) (.bool false) rfl rfl (by kernel_rfl) (by kernel_rfl) (by kernel_rfl) (by kernel_rfl) hS (y_run (by rfl) fun _ => by rfl) ?_
                        simp only [Act.put, List.setIfInBounds_toArray, List.set_cons_zero, List.set_cons_succ]
                        refine mf_yield (i := 20) (d := 164) undef rfl rfl (by kernel_rfl) (by kernel_rfl) (by kernel_rfl) (by kernel_rfl) hS (y_skip (by rfl)) ?_
                        simp only [Act.put, List.setIfInBounds_toArray, List.set_cons_zero, List.set_cons_succ]
                        refine mf_yield (i := 21) (d := 165) undef rfl rfl (by kernel_rfl) (by kernel_rfl) (by kernel_rfl) (by kernel_rfl) hS (y_skip (by rfl)) ?_
                        simp only [Act.put, List.setIfInBounds_toArray, List.set_cons_zero, List.set_cons_succ]
                        refine mf_yield (i := 22) (d := 166) (.bool false) rfl rfl (by kernel_rfl) (by kernel_rfl) (by kernel_rfl) (by kernel_rfl) hS (y_run (by rfl) fun _ => by rfl) ?_
                        simp only [Act.put, List.setIfInBounds_toArray, List.set_cons_zero, List.set_cons_succ]
                        refine mf_yield (i := 23) (d := 167) (.bool false) rfl rfl (by kernel_rfl) (by kernel_rfl) (by kernel_rfl) (by kernel_rfl) hS (y_run (by rfl) fun _ => by rfl) ?_
                        simp only [Act.put, List.setIfInBounds_toArray, List.set_cons_zero, List.set_cons_succ]
                        refine mf_yield (i := 24) (d := 168) (.bool false) rfl rfl (by kernel_rfl) (by kernel_rfl) (by kernel_rfl) (by kernel_rfl) hS (y_run (by rfl) fun _ => by rfl) ?_
                        simp only [Act.put, List.setIfInBounds_toArray, List.set_cons_zero, List.set_cons_succ]
                        refine mf_yield (i := 25) (d := 169) (.pointer (some ⟨gx, 4, none⟩)) rfl rfl (by kernel_rfl) (by kernel_rfl) (by kernel_rfl) (by kernel_rfl) hS (y_fieldO (by rfl) rfl rfl fld_r4 rfl) ?_
                        simp only [Act.put, List.setIfInBounds_toArray, List.set_cons_zero, List.set_cons_succ]
                        refine mf_yield (i := 26) (d := 170) (.bool true) rfl rfl (by kernel_rfl) (by kernel_rfl) (by kernel_rfl) (by kernel_rfl) hS (y_cell1 (by rfl) rfl rfl Try.underlying4 rfl (fun w' h => by rw [h]; exact c4)) ?_
                        simp only [Act.put, List.setIfInBounds_toArray, List.set_cons_zero, List.set_cons_succ]
                        refine mf_yield (i := 27) (d := 171) (.bool false) rfl rfl (by kernel_rfl) (by kernel_rfl) (by kernel_rfl) (by kernel_rfl) hS (y_not (b := true) (by rfl) rfl rfl) ?_
                        simp only [Act.put, List.setIfInBounds_toArray, List.set_cons_zero, List.set_cons_succ]
                        refine mf_yield (i := 28) (d := 172) (.bool false) rfl rfl (by kernel_rfl) (by kernel_rfl) (by kernel_rfl) (by kernel_rfl) hS (y_run (by rfl) fun _ => by rfl) ?_
                        simp only [Act.put, List.setIfInBounds_toArray, List.set_cons_zero, List.set_cons_succ]
                        refine mf_yield (i := 29) (d := 173) undef rfl rfl (by kernel_rfl) (by kernel_rfl) (by kernel_rfl) (by kernel_rfl) hS (y_skip (by rfl)) ?_
                        simp only [Act.put, List.setIfInBounds_toArray, List.set_cons_zero, List.set_cons_succ]
                        refine mf_yield (i := 30) (d := 174) (.bool false) rfl rfl (by kernel_rfl) (by kernel_rfl) (by kernel_rfl) (by kernel_rfl) hS (y_run (by rfl) fun _ => by rfl) ?_
                        simp only [Act.put, List.setIfInBounds_toArray, List.set_cons_zero, List.set_cons_succ]
                        refine mf_yield (i := 31) (d := 175) (.bool false) rfl rfl (by kernel_rfl) (by kernel_rfl) (by kernel_rfl) (by kernel_rfl) hS (y_run (by rfl) fun _ => by rfl) ?_
                        simp only [Act.put, List.setIfInBounds_toArray, List.set_cons_zero, List.set_cons_succ]
                        refine mf_yield (i := 32) (d := 176) undef rfl rfl (by kernel_rfl) (by kernel_rfl) (by kernel_rfl) (by kernel_rfl) hS (y_skip (by rfl)) ?_
                        simp only [Act.put, List.setIfInBounds_toArray, List.set_cons_zero, List.set_cons_succ]
                        refine mf_yield (i := 33) (d := 177) undef rfl rfl (by kernel_rfl) (by kernel_rfl) (by kernel_rfl) (by kernel_rfl) hS (y_skip (by rfl)) ?_
                        simp only [Act.put, List.setIfInBounds_toArray, List.set_cons_zero, List.set_cons_succ]
                        refine mf_yield (i := 34) (d := 178) undef rfl rfl (by kernel_rfl) (by kernel_rfl) (by kernel_rfl) (by kernel_rfl) hS (y_skip (by rfl)) ?_
                        simp only [Act.put, List.setIfInBounds_toArray, List.set_cons_zero, List.set_cons_succ]
                        refine mf_yield (i := 35) (d := 179) undef rfl rfl (by kernel_rfl) (by kernel_rfl) (by kernel_rfl) (by kernel_rfl) hS (y_skip (by rfl)) ?_
                        simp only [Act.put, List.setIfInBounds_toArray, List.set_cons_zero, List.set_cons_succ]
                        refine mf_yield (i := 36) (d := 180) undef rfl rfl (by kernel_rfl) (by kernel_rfl) (by kernel_rfl) (by kernel_rfl) hS (y_skip (by rfl)) ?_
                        simp only [Act.put, List.setIfInBounds_toArray, List.set_cons_zero, List.set_cons_succ]
                        refine mf_yield (i := 37) (d := 181) undef rfl rfl (by kernel_rfl) (by kernel_rfl) (by kernel_rfl) (by kernel_rfl) hS (y_skip (by rfl)) ?_
                        simp only [Act.put, List.setIfInBounds_toArray, List.set_cons_zero, List.set_cons_succ]
                        refine mf_yield (i := 38) (d := 182) undef rfl rfl (by kernel_rfl) (by kernel_rfl) (by kernel_rfl) (by kernel_rfl) hS (y_skip (by rfl)) ?_
                        simp only [Act.put, List.setIfInBounds_toArray, List.set_cons_zero, List.set_cons_succ]
                        refine mf_yield (i := 39) (d := 183) undef rfl rfl (by kernel_rfl) (by kernel_rfl) (by kernel_rfl) (by kernel_rfl) hS (y_skip (by rfl)) ?_
                        simp only [Act.put, List.setIfInBounds_toArray, List.set_cons_zero, List.set_cons_succ]
                        refine mf_yield (i := 40) (d := 184) undef rfl rfl (by kernel_rfl) (by kernel_rfl) (by kernel_rfl) (by kernel_rfl) hS (y_skip (by rfl)) ?_
                        simp only [Act.put, List.setIfInBounds_toArray, List.set_cons_zero, List.set_cons_succ]
                        refine mf_yield (i := 41) (d := 185) undef rfl rfl (by kernel_rfl) (by kernel_rfl) (by kernel_rfl) (by kernel_rfl) hS (y_skip (by rfl)) ?_
                        simp only [Act.put, List.setIfInBounds_toArray, List.set_cons_zero, List.set_cons_succ]
                        refine mf_yield (i := 42) (d := 186) undef rfl rfl (by kernel_rfl) (by kernel_rfl) (by kernel_rfl) (by kernel_rfl) hS (y_skip (by rfl)) ?_
                        simp only [Act.put, List.setIfInBounds_toArray, List.set_cons_zero, List.set_cons_succ]
                        refine mf_yield (i := 43) (d := 187) (.bool false) rfl rfl (by kernel_rfl) (by kernel_rfl) (by kernel_rfl) (by kernel_rfl) hS (y_run (by rfl) fun _ => by rfl) ?_
                        simp only [Act.put, List.setIfInBounds_toArray, List.set_cons_zero, List.set_cons_succ]
                        refine mf_yield (i := 44) (d := 188) (.bool false) rfl rfl (by kernel_rfl) (by kernel_rfl) (by kernel_rfl) (by kernel_rfl) hS (y_run (by rfl) fun _ => by rfl) ?_
                        simp only [Act.put, List.setIfInBounds_toArray, List.set_cons_zero, List.set_cons_succ]
                        refine mf_done (by kernel_rfl) ?_
                        have HP6 := Lib.hid HP5.out.drew
                        have d4 : W5.drew.cell? ⟨gx, 4, none⟩ = some (.bool true) := c4
                        clear hS HP5 HVp c4
                        revert d4; revert HP6
                        generalize W5.drew = W6
                        intro HP6 d4
                        obtain ⟨cr, fr⟩ := HP6.out.rdAt (k := kk) (by rw [HSN.out.1]; exact hkd)
                        have hrb0 := HPl.out.dk.num.2.2 (kk : Nat)
                        obtain ⟨r, hr⟩ : ∃ r, d.reads (kk : Nat) = r := ⟨_, rfl⟩
                        rw [hr] at cr
                        have HRV := Lib.hid (show (d.readD (kk : Nat)).reads (kk : Nat) = r by rw [HRD.out, ← hr])
                        clear hrb0 hr
                        go_wp2_with fail
                        refine mf_start (fun w' => w' = W6.drew) (fun _ => false) rfl fun hS => ?_
                        refine mf_yield (i := 0) (d := 201) (.bool true) rfl rfl (by kernel_rfl) (by kernel_rfl) (by kernel_rfl) (by kernel_rfl) hS (y_run (by rfl) fun _ => by rfl) ?_
                        simp only [Act.put, List.setIfInBounds_toArray, List.set_cons_zero, List.set_cons_succ]
                        refine mf_yield (i := 1) (d := 202) (.bool true) rfl rfl (by kernel_rfl) (by kernel_rfl) (by kernel_rfl) (by kernel_rfl) hS (y_run (by rfl) fun _ => by rfl) ?_
                        simp only [Act.put, List.setIfInBounds_toArray, List.set_cons_zero, List.set_cons_succ]
                        refine mf_yield (i := 2) (d := 203) (.pointer (some ⟨b, 0, none⟩)) rfl rfl (by kernel_rfl) (by kernel_rfl) (by kernel_rfl) (by kernel_rfl) hS (y_run (by rfl) fun _ => by rfl) ?_
                        simp only [Act.put, List.setIfInBounds_toArray, List.set_cons_zero, List.set_cons_succ]
                        refine mf_yield (i := 3) (d := 204) (.int .i64 ((kk : Nat))) rfl rfl (by kernel_rfl) (by kernel_rfl) (by kernel_rfl) (by kernel_rfl) hS (y_run (by rfl) fun _ => by rfl) ?_
                        simp only [Act.put, List.setIfInBounds_toArray, List.set_cons_zero, List.set_cons_succ]
                        refine mf_yield (i := 5) (d := 206) (.slice ((some ⟨rb, 0, none⟩)) size size) rfl rfl (by kernel_rfl) (by kernel_rfl) (by kernel_rfl) (by kernel_rfl) hS (y_run (by rfl) fun _ => by rfl) ?_
                        simp only [Act.put, List.setIfInBounds_toArray, List.set_cons_zero, List.set_cons_succ]
                        refine mf_yield (i := 6) (d := 207) (.int .i64 ((kk : Nat))) rfl rfl (by kernel_rfl) (by kernel_rfl) (by kernel_rfl) (by kernel_rfl) hS (y_run (by rfl) fun _ => by rfl) ?_
                        simp only [Act.put, List.setIfInBounds_toArray, List.set_cons_zero, List.set_cons_succ]
                        refine mf_yield (i := 7) (d := 208) (.pointer (some ⟨rb, kk, none⟩)) rfl rfl (by kernel_rfl) (by kernel_rfl) (by kernel_rfl) (by kernel_rfl) hS (y_ex elt_i (by rfl) rfl rfl rfl rfl hkz (by omega)) ?_
                        simp only [Act.put, List.setIfInBounds_toArray, List.set_cons_zero, List.set_cons_succ]
                        refine mf_yield (i := 8) (d := 209) (.int .i64 r) rfl rfl (by kernel_rfl) (by kernel_rfl) (by kernel_rfl) (by kernel_rfl) hS (y_cell1 (by rfl) rfl rfl Try.underlying3 rfl (fun w' h => by rw [h]; exact cr)) ?_
                        simp only [Act.put, List.setIfInBounds_toArray, List.set_cons_zero, List.set_cons_succ]
                        refine mf_ready [4] (by kernel_rfl) (by simp) (af_call (i := 4) (d := 205) (R := fun v w' => v = .int .i64 r ∧ w' = W6.drew) #[.pointer (some ⟨b, 0, none⟩), .int .i64 (kk : Nat)] rfl rfl (by rfl) rfl enter_reads (by kernel_rfl) ((reads_L HP6.out.dk.drew (kk : Nat) HWF.out).mono fun e w' h => ⟨.int .i64 r, by rw [h.1, HRV.out], rfl, h.2⟩) (fun v w' h => h.2) ?_ AllReadyF.nil)
                        rintro v w8 ⟨rfl, rfl⟩ hS8
                        simp only [Act.put, List.setIfInBounds_toArray, List.set_cons_zero, List.set_cons_succ]
                        refine mf_yield (i := 9) (d := 210) (.bool false) rfl rfl (by kernel_rfl) (by kernel_rfl) (by kernel_rfl) (by kernel_rfl) hS8 (y_nei (by rfl) rfl rfl rfl (bne_self_eq_false _)) ?_
                        simp only [Act.put, List.setIfInBounds_toArray, List.set_cons_zero, List.set_cons_succ]
                        refine mf_yield (i := 10) (d := 211) (.bool false) rfl rfl (by kernel_rfl) (by kernel_rfl) (by kernel_rfl) (by kernel_rfl) hS8 (y_run (by rfl) fun _ => by rfl) ?_
                        simp only [Act.put, List.setIfInBounds_toArray, List.set_cons_zero, List.set_cons_succ]
                        refine mf_yield (i := 11) (d := 212) (.bool false) rfl rfl (by kernel_rfl) (by kernel_rfl) (by kernel_rfl) (by kernel_rfl) hS8 (y_run (by rfl) fun _ => by rfl) ?_
                        simp only [Act.put, List.setIfInBounds_toArray, List.set_cons_zero, List.set_cons_succ]
                        refine mf_yield (i := 12) (d := 213) (.bool true) rfl rfl (by kernel_rfl) (by kernel_rfl) (by kernel_rfl) (by kernel_rfl) hS8 (y_run (by rfl) fun _ => by rfl) ?_
                        simp only [Act.put, List.setIfInBounds_toArray, List.set_cons_zero, List.set_cons_succ]
                        refine mf_yield (i := 13) (d := 214) (.bool false) rfl rfl (by kernel_rfl) (by kernel_rfl) (by kernel_rfl) (by kernel_rfl) hS8 (y_not (b := true) (by rfl) rfl rfl) ?_
                        simp only [Act.put, List.setIfInBounds_toArray, List.set_cons_zero, List.set_cons_succ]
                        refine mf_yield (i := 14) (d := 215) (.bool false) rfl rfl (by kernel_rfl) (by kernel_rfl) (by kernel_rfl) (by kernel_rfl) hS8 (y_run (by rfl) fun _ => by rfl) ?_
                        simp only [Act.put, List.setIfInBounds_toArray, List.set_cons_zero, List.set_cons_succ]
                        refine mf_yield (i := 15) (d := 216) undef rfl rfl (by kernel_rfl) (by kernel_rfl) (by kernel_rfl) (by kernel_rfl) hS8 (y_skip (by rfl)) ?_
                        simp only [Act.put, List.setIfInBounds_toArray, List.set_cons_zero, List.set_cons_succ]
                        refine mf_yield (i := 16) (d := 217) undef rfl rfl (by kernel_rfl) (by kernel_rfl) (by kernel_rfl) (by kernel_rfl) hS8 (y_skip (by rfl)) ?_
                        simp only [Act.put, List.setIfInBounds_toArray, List.set_cons_zero, List.set_cons_succ]
                        refine mf_yield (i := 17) (d := 218) undef rfl rfl (by kernel_rfl) (by kernel_rfl) (by kernel_rfl) (by kernel_rfl) hS8 (y_skip (by rfl)) ?_
                        simp only [Act.put, List.setIfInBounds_toArray, List.set_cons_zero, List.set_cons_succ]
                        refine mf_yield (i := 18) (d := 219) undef rfl rfl (by kernel_rfl) (by kernel_rfl) (by kernel_rfl) (by kernel_rfl) hS8 (y_skip (by rfl)) ?_
                        simp only [Act.put, List.setIfInBounds_toArray, List.set_cons_zero, List.set_cons_succ]
                        refine mf_yield (i := 19) (d := 220) (.bool false) rfl rfl (by kernel_rfl) (by kernel_rfl) (by kernel_rfl) (by kernel_rfl) hS8 (y_run (by rfl) fun _ => by rfl) ?_
                        simp only [Act.put, List.setIfInBounds_toArray, List.set_cons_zero, List.set_cons_succ]
                        refine mf_yield (i := 20) (d := 221) (.bool false) rfl rfl (by kernel_rfl) (by kernel_rfl) (by kernel_rfl) (by kernel_rfl) hS8 (y_run (by rfl) fun _ => by rfl) ?_
                        simp only [Act.put, List.setIfInBounds_toArray, List.set_cons_zero, List.set_cons_succ]
                        refine mf_done (by kernel_rfl) ?_
                        have HX := Lib.hid (show PlS w b (63 * k + 1 + (m + 1)) gx rb size (k + 1) size W6.drew from ⟨_, _, d.readD (kk : Nat), _, by rw [HRD.out]; exact (HP6.out.readX (kk : Nat)).drew.mono (by omega), by rw [HSN.out.2]; exact hdn2, by rw [HSN.out.1]; exact HDZ.out⟩)
                        clear hS hS8 HP6 cr
                        go_wp2_with fail
                        go_roundw
                        case rel => exact ⟨m + 1, by have := HZM.out; have := HSZ.out; omega, by have := HZM.out; simp only [Value.int.injEq, true_and]; omega, HX⟩
                        case measure => simp [intOf]; have := HSZ.out; omega
                  · cases hdn : d.down
                    · as_aux_lemma =>
                        have hzb : decide (z < sz) = false := decide_eq_false hzs
                        have hre : d.reach z = 1 := (Dsk.reach_all d _).2.2 hdn (by have := HDZ.out; have := HSZ.out; omega)
                        have HWF := Lib.hid (show (Lit.int .i64 (z : Int)).wf = true from WalkArith.wf_i64 (by omega))
                        have hrp : d.readP zP z = zP := by unfold Dsk.readP; rw [if_neg (by rw [hre]; omega)]
                        have HRD := Lib.hid (show (d.readD z).reads = d.reads by unfold Dsk.readD; rw [if_neg (by rw [hre]; omega)])
                        have HSN := Lib.hid (readD_sn d z)
                        go_wp2_with fail
                        refine (read_L HPl.out.dk z HWF.out (by omega)).mono ?_
                        rintro e w5 ⟨rfl, hd5, hk5⟩
                        rw [hre, hrp]
                        have HP5 := Lib.hid ((HPl.out.disk hd5 hk5 HSN.out.1 (HPl.out.fit.1.read z)).alloc (.cells zP 36))
                        have HVp := Lib.hid (At.new w5 zP 36)
                        clear hd5 hk5 hre hrp
                        go_wp2_with (refine wpList_store_row rfl 36 _ _ rfl w5.heap.size zP rfl rfl _ _ (heap_alloc_new _ _) (info_pag PZ.out) (rfl) PZ.out.one ?_; rw [World.setRow_alloc_new])
                        revert HVp; revert HP5
                        generalize Plus G w5.heap.size = G5
                        generalize w5.heap.size = gp
                        generalize World.alloc _ _ = W5
                        intro HP5 HVp
                        have c4 : W5.cell? ⟨gx, 4, none⟩ = some (.bool false) := by rw [← hdn]; exact HP5.out.cells.1
                        refine mf_start (fun w' => w' = W5.drew) (fun _ => false) rfl fun hS => ?_
                        refine mf_yield (i := 0) (d := 144) (.pointer (some ⟨gx, 4, none⟩)) rfl rfl (by kernel_rfl) (by kernel_rfl) (by kernel_rfl) (by kernel_rfl) hS (y_fieldO (by rfl) rfl rfl fld_r4 rfl) ?_
                        simp only [Act.put, List.setIfInBounds_toArray, List.set_cons_zero, List.set_cons_succ]
                        refine mf_yield (i := 1) (d := 145) (.bool false) rfl rfl (by kernel_rfl) (by kernel_rfl) (by kernel_rfl) (by kernel_rfl) hS (y_cell1 (by rfl) rfl rfl Try.underlying4 rfl (fun w' h => by rw [h]; exact c4)) ?_
                        simp only [Act.put, List.setIfInBounds_toArray, List.set_cons_zero, List.set_cons_succ]
                        refine mf_yield (i := 2) (d := 146) (.bool false) rfl rfl (by kernel_rfl) (by kernel_rfl) (by kernel_rfl) (by kernel_rfl) hS (y_run (by rfl) fun _ => by rfl) ?_
                        simp only [Act.put, List.setIfInBounds_toArray, List.set_cons_zero, List.set_cons_succ]
                        refine mf_yield (i := 3) (d := 147) undef rfl rfl (by kernel_rfl) (by kernel_rfl) (by kernel_rfl) (by kernel_rfl) hS (y_skip (by rfl)) ?_
                        simp only [Act.put, List.setIfInBounds_toArray, List.set_cons_zero, List.set_cons_succ]
                        refine mf_yield (i := 4) (d := 148) undef rfl rfl (by kernel_rfl) (by kernel_rfl) (by kernel_rfl) (by kernel_rfl) hS (y_skip (by rfl)) ?_
                        simp only [Act.put, List.setIfInBounds_toArray, List.set_cons_zero, List.set_cons_succ]
                        refine mf_yield (i := 5) (d := 149) undef rfl rfl (by kernel_rfl) (by kernel_rfl) (by kernel_rfl) (by kernel_rfl) hS (y_skip (by rfl)) ?_
                        simp only [Act.put, List.setIfInBounds_toArray, List.set_cons_zero, List.set_cons_succ]
                        refine mf_yield (i := 6) (d := 150) undef rfl rfl (by kernel_rfl) (by kernel_rfl) (by kernel_rfl) (by kernel_rfl) hS (y_skip (by rfl)) ?_
                        simp only [Act.put, List.setIfInBounds_toArray, List.set_cons_zero, List.set_cons_succ]
                        refine mf_yield (i := 7) (d := 151) undef rfl rfl (by kernel_rfl) (by kernel_rfl) (by kernel_rfl) (by kernel_rfl) hS (y_skip (by rfl)) ?_
                        simp only [Act.put, List.setIfInBounds_toArray, List.set_cons_zero, List.set_cons_succ]
                        refine mf_yield (i := 8) (d := 152) undef rfl rfl (by kernel_rfl) (by kernel_rfl) (by kernel_rfl) (by kernel_rfl) hS (y_skip (by rfl)) ?_
                        simp only [Act.put, List.setIfInBounds_toArray, List.set_cons_zero, List.set_cons_succ]
                        refine mf_yield (i := 9) (d := 153) undef rfl rfl (by kernel_rfl) (by kernel_rfl) (by kernel_rfl) (by kernel_rfl) hS (y_skip (by rfl)) ?_
                        simp only [Act.put, List.setIfInBounds_toArray, List.set_cons_zero, List.set_cons_succ]
                        refine mf_yield (i := 10) (d := 154) (.bool false) rfl rfl (by kernel_rfl) (by kernel_rfl) (by kernel_rfl) (by kernel_rfl) hS (y_run (by rfl) fun _ => by rfl) ?_
                        simp only [Act.put, List.setIfInBounds_toArray, List.set_cons_zero, List.set_cons_succ]
                        refine mf_yield (i := 11) (d := 155) (.bool false) rfl rfl (by kernel_rfl) (by kernel_rfl) (by kernel_rfl) (by kernel_rfl) hS (y_run (by rfl) fun _ => by rfl) ?_
                        simp only [Act.put, List.setIfInBounds_toArray, List.set_cons_zero, List.set_cons_succ]
                        refine mf_yield (i := 12) (d := 156) (.pointer (some ⟨gx, 4, none⟩)) rfl rfl (by kernel_rfl) (by kernel_rfl) (by kernel_rfl) (by kernel_rfl) hS (y_fieldO (by rfl) rfl rfl fld_r4 rfl) ?_
                        simp only [Act.put, List.setIfInBounds_toArray, List.set_cons_zero, List.set_cons_succ]
                        refine mf_yield (i := 13) (d := 157) (.bool false) rfl rfl (by kernel_rfl) (by kernel_rfl) (by kernel_rfl) (by kernel_rfl) hS (y_cell1 (by rfl) rfl rfl Try.underlying4 rfl (fun w' h => by rw [h]; exact c4)) ?_
                        simp only [Act.put, List.setIfInBounds_toArray, List.set_cons_zero, List.set_cons_succ]
                        refine mf_yield (i := 14) (d := 158) (.bool true) rfl rfl (by kernel_rfl) (by kernel_rfl) (by kernel_rfl) (by kernel_rfl) hS (y_not (b := false) (by rfl) rfl rfl) ?_
                        simp only [Act.put, List.setIfInBounds_toArray, List.set_cons_zero, List.set_cons_succ]
                        refine mf_yield (i := 15) (d := 159) (.bool true) rfl rfl (by kernel_rfl) (by kernel_rfl) (by kernel_rfl) (by kernel_rfl) hS (y_run (by rfl) fun _ => by rfl) ?_
                        simp only [Act.put, List.setIfInBounds_toArray, List.set_cons_zero, List.set_cons_succ]
                        refine mf_yield (i := 16) (d := 160) (.bool false) rfl rfl (by kernel_rfl) (by kernel_rfl) (by kernel_rfl) (by kernel_rfl) hS (y_run (by rfl) fun _ => by rfl) ?_
                        simp only [Act.put, List.setIfInBounds_toArray, List.set_cons_zero, List.set_cons_succ]
                        refine mf_yield (i := 17) (d := 161) (.bool true) rfl rfl (by kernel_rfl) (by kernel_rfl) (by kernel_rfl) (by kernel_rfl) hS (y_not (b := false) (by rfl) rfl rfl) ?_
                        simp only [Act.put, List.setIfInBounds_toArray, List.set_cons_zero, List.set_cons_succ]
                        refine mf_yield (i := 18) (d := 162) (.bool true) rfl rfl (by kernel_rfl) (by kernel_rfl) (by kernel_rfl) (by kernel_rfl) hS (y_run (by rfl) fun _ => by rfl) ?_
                        simp only [Act.put, List.setIfInBounds_toArray, List.set_cons_zero, List.set_cons_succ]
                        refine mf_yield (i := 19) (d := 163) (.bool true) rfl rfl (by kernel_rfl) (by kernel_rfl) (by kernel_rfl) (by kernel_rfl) hS (y_run (by rfl) fun _ => by rfl) ?_
                        simp only [Act.put, List.setIfInBounds_toArray, List.set_cons_zero, List.set_cons_succ]
                        refine mf_yield (i := 20) (d := 164) (.int .i64 1) rfl rfl (by kernel_rfl) (by kernel_rfl) (by kernel_rfl) (by kernel_rfl) hS (y_run (by rfl) fun _ => by rfl) ?_
                        simp only [Act.put, List.setIfInBounds_toArray, List.set_cons_zero, List.set_cons_succ]
                        refine mf_yield (i := 21) (d := 165) (.bool false) rfl rfl (by kernel_rfl) (by kernel_rfl) (by kernel_rfl) (by kernel_rfl) hS (y_neo (by rfl) rfl rfl rfl rfl) ?_
                        simp only [Act.put, List.setIfInBounds_toArray, List.set_cons_zero, List.set_cons_succ]
                        refine mf_yield (i := 22) (d := 166) (.bool false) rfl rfl (by kernel_rfl) (by kernel_rfl) (by kernel_rfl) (by kernel_rfl) hS (y_run (by rfl) fun _ => by rfl) ?_
                        simp only [Act.put, List.setIfInBounds_toArray, List.set_cons_zero, List.set_cons_succ]
                        refine mf_yield (i := 23) (d := 167) (.bool false) rfl rfl (by kernel_rfl) (by kernel_rfl) (by kernel_rfl) (by kernel_rfl) hS (y_run (by rfl) fun _ => by rfl) ?_
                        simp only [Act.put, List.setIfInBounds_toArray, List.set_cons_zero, List.set_cons_succ]
                        refine mf_yield (i := 24) (d := 168) (.bool false) rfl rfl (by kernel_rfl) (by kernel_rfl) (by kernel_rfl) (by kernel_rfl) hS (y_run (by rfl) fun _ => by rfl) ?_
                        simp only [Act.put, List.setIfInBounds_toArray, List.set_cons_zero, List.set_cons_succ]
                        refine mf_yield (i := 25) (d := 169) (.pointer (some ⟨gx, 4, none⟩)) rfl rfl (by kernel_rfl) (by kernel_rfl) (by kernel_rfl) (by kernel_rfl) hS (y_fieldO (by rfl) rfl rfl fld_r4 rfl) ?_
                        simp only [Act.put, List.setIfInBounds_toArray, List.set_cons_zero, List.set_cons_succ]
                        refine mf_yield (i := 26) (d := 170) (.bool false) rfl rfl (by kernel_rfl) (by kernel_rfl) (by kernel_rfl) (by kernel_rfl) hS (y_cell1 (by rfl) rfl rfl Try.underlying4 rfl (fun w' h => by rw [h]; exact c4)) ?_
                        simp only [Act.put, List.setIfInBounds_toArray, List.set_cons_zero, List.set_cons_succ]
                        refine mf_yield (i := 27) (d := 171) (.bool true) rfl rfl (by kernel_rfl) (by kernel_rfl) (by kernel_rfl) (by kernel_rfl) hS (y_not (b := false) (by rfl) rfl rfl) ?_
                        simp only [Act.put, List.setIfInBounds_toArray, List.set_cons_zero, List.set_cons_succ]
                        refine mf_yield (i := 28) (d := 172) (.bool true) rfl rfl (by kernel_rfl) (by kernel_rfl) (by kernel_rfl) (by kernel_rfl) hS (y_run (by rfl) fun _ => by rfl) ?_
                        simp only [Act.put, List.setIfInBounds_toArray, List.set_cons_zero, List.set_cons_succ]
                        refine mf_yield (i := 29) (d := 173) (.bool false) rfl rfl (by kernel_rfl) (by kernel_rfl) (by kernel_rfl) (by kernel_rfl) hS (y_run (by rfl) fun _ => by rfl) ?_
                        simp only [Act.put, List.setIfInBounds_toArray, List.set_cons_zero, List.set_cons_succ]
                        refine mf_yield (i := 30) (d := 174) (.bool false) rfl rfl (by kernel_rfl) (by kernel_rfl) (by kernel_rfl) (by kernel_rfl) hS (y_run (by rfl) fun _ => by rfl) ?_
                        simp only [Act.put, List.setIfInBounds_toArray, List.set_cons_zero, List.set_cons_succ]
                        refine mf_yield (i := 31) (d := 175) (.bool false) rfl rfl (by kernel_rfl) (by kernel_rfl) (by kernel_rfl) (by kernel_rfl) hS (y_run (by rfl) fun _ => by rfl) ?_
                        simp only [Act.put, List.setIfInBounds_toArray, List.set_cons_zero, List.set_cons_succ]
                        refine mf_yield (i := 32) (d := 176) undef rfl rfl (by kernel_rfl) (by kernel_rfl) (by kernel_rfl) (by kernel_rfl) hS (y_skip (by rfl)) ?_
                        simp only [Act.put, List.setIfInBounds_toArray, List.set_cons_zero, List.set_cons_succ]
                        refine mf_yield (i := 33) (d := 177) undef rfl rfl (by kernel_rfl) (by kernel_rfl) (by kernel_rfl) (by kernel_rfl) hS (y_skip (by rfl)) ?_
                        simp only [Act.put, List.setIfInBounds_toArray, List.set_cons_zero, List.set_cons_succ]
                        refine mf_yield (i := 34) (d := 178) undef rfl rfl (by kernel_rfl) (by kernel_rfl) (by kernel_rfl) (by kernel_rfl) hS (y_skip (by rfl)) ?_
                        simp only [Act.put, List.setIfInBounds_toArray, List.set_cons_zero, List.set_cons_succ]
                        refine mf_yield (i := 35) (d := 179) undef rfl rfl (by kernel_rfl) (by kernel_rfl) (by kernel_rfl) (by kernel_rfl) hS (y_skip (by rfl)) ?_
                        simp only [Act.put, List.setIfInBounds_toArray, List.set_cons_zero, List.set_cons_succ]
                        refine mf_yield (i := 36) (d := 180) undef rfl rfl (by kernel_rfl) (by kernel_rfl) (by kernel_rfl) (by kernel_rfl) hS (y_skip (by rfl)) ?_
                        simp only [Act.put, List.setIfInBounds_toArray, List.set_cons_zero, List.set_cons_succ]
                        refine mf_yield (i := 37) (d := 181) undef rfl rfl (by kernel_rfl) (by kernel_rfl) (by kernel_rfl) (by kernel_rfl) hS (y_skip (by rfl)) ?_
                        simp only [Act.put, List.setIfInBounds_toArray, List.set_cons_zero, List.set_cons_succ]
                        refine mf_yield (i := 38) (d := 182) undef rfl rfl (by kernel_rfl) (by kernel_rfl) (by kernel_rfl) (by kernel_rfl) hS (y_skip (by rfl)) ?_
                        simp only [Act.put, List.setIfInBounds_toArray, List.set_cons_zero, List.set_cons_succ]
                        refine mf_yield (i := 39) (d := 183) undef rfl rfl (by kernel_rfl) (by kernel_rfl) (by kernel_rfl) (by kernel_rfl) hS (y_skip (by rfl)) ?_
                        simp only [Act.put, List.setIfInBounds_toArray, List.set_cons_zero, List.set_cons_succ]
                        refine mf_yield (i := 40) (d := 184) undef rfl rfl (by kernel_rfl) (by kernel_rfl) (by kernel_rfl) (by kernel_rfl) hS (y_skip (by rfl)) ?_
                        simp only [Act.put, List.setIfInBounds_toArray, List.set_cons_zero, List.set_cons_succ]
                        refine mf_yield (i := 41) (d := 185) undef rfl rfl (by kernel_rfl) (by kernel_rfl) (by kernel_rfl) (by kernel_rfl) hS (y_skip (by rfl)) ?_
                        simp only [Act.put, List.setIfInBounds_toArray, List.set_cons_zero, List.set_cons_succ]
                        refine mf_yield (i := 42) (d := 186) undef rfl rfl (by kernel_rfl) (by kernel_rfl) (by kernel_rfl) (by kernel_rfl) hS (y_skip (by rfl)) ?_
                        simp only [Act.put, List.setIfInBounds_toArray, List.set_cons_zero, List.set_cons_succ]
                        refine mf_yield (i := 43) (d := 187) (.bool false) rfl rfl (by kernel_rfl) (by kernel_rfl) (by kernel_rfl) (by kernel_rfl) hS (y_run (by rfl) fun _ => by rfl) ?_
                        simp only [Act.put, List.setIfInBounds_toArray, List.set_cons_zero, List.set_cons_succ]
                        refine mf_yield (i := 44) (d := 188) (.bool false) rfl rfl (by kernel_rfl) (by kernel_rfl) (by kernel_rfl) (by kernel_rfl) hS (y_run (by rfl) fun _ => by rfl) ?_
                        simp only [Act.put, List.setIfInBounds_toArray, List.set_cons_zero, List.set_cons_succ]
                        refine mf_done (by kernel_rfl) ?_
                        have HP6 := Lib.hid HP5.out.drew
                        have d4 : W5.drew.cell? ⟨gx, 4, none⟩ = some (.bool false) := c4
                        clear hS HP5 HVp c4
                        revert d4; revert HP6
                        generalize W5.drew = W6
                        intro HP6 d4
                        have HRV := Lib.hid (show (d.readD z).reads z = 0 by rw [HRD.out]; exact HPl.out.out z (by have := HDZ.out; have := HSZ.out; omega))
                        go_wp2_with fail
                        refine mf_start (fun w' => w' = W6.drew) (fun _ => false) rfl fun hS => ?_
                        refine mf_yield (i := 0) (d := 201) (.bool false) rfl rfl (by kernel_rfl) (by kernel_rfl) (by kernel_rfl) (by kernel_rfl) hS (y_run (by rfl) fun _ => by rfl) ?_
                        simp only [Act.put, List.setIfInBounds_toArray, List.set_cons_zero, List.set_cons_succ]
                        refine mf_yield (i := 1) (d := 202) (.bool false) rfl rfl (by kernel_rfl) (by kernel_rfl) (by kernel_rfl) (by kernel_rfl) hS (y_run (by rfl) fun _ => by rfl) ?_
                        simp only [Act.put, List.setIfInBounds_toArray, List.set_cons_zero, List.set_cons_succ]
                        refine mf_yield (i := 2) (d := 203) undef rfl rfl (by kernel_rfl) (by kernel_rfl) (by kernel_rfl) (by kernel_rfl) hS (y_skip (by rfl)) ?_
                        simp only [Act.put, List.setIfInBounds_toArray, List.set_cons_zero, List.set_cons_succ]
                        refine mf_yield (i := 3) (d := 204) undef rfl rfl (by kernel_rfl) (by kernel_rfl) (by kernel_rfl) (by kernel_rfl) hS (y_skip (by rfl)) ?_
                        simp only [Act.put, List.setIfInBounds_toArray, List.set_cons_zero, List.set_cons_succ]
                        refine mf_yield (i := 4) (d := 205) undef rfl rfl (by kernel_rfl) (by kernel_rfl) (by kernel_rfl) (by kernel_rfl) hS (y_skip (by rfl)) ?_
                        simp only [Act.put, List.setIfInBounds_toArray, List.set_cons_zero, List.set_cons_succ]
                        refine mf_yield (i := 5) (d := 206) undef rfl rfl (by kernel_rfl) (by kernel_rfl) (by kernel_rfl) (by kernel_rfl) hS (y_skip (by rfl)) ?_
                        simp only [Act.put, List.setIfInBounds_toArray, List.set_cons_zero, List.set_cons_succ]
                        refine mf_yield (i := 6) (d := 207) undef rfl rfl (by kernel_rfl) (by kernel_rfl) (by kernel_rfl) (by kernel_rfl) hS (y_skip (by rfl)) ?_
                        simp only [Act.put, List.setIfInBounds_toArray, List.set_cons_zero, List.set_cons_succ]
                        refine mf_yield (i := 7) (d := 208) undef rfl rfl (by kernel_rfl) (by kernel_rfl) (by kernel_rfl) (by kernel_rfl) hS (y_skip (by rfl)) ?_
                        simp only [Act.put, List.setIfInBounds_toArray, List.set_cons_zero, List.set_cons_succ]
                        refine mf_yield (i := 8) (d := 209) undef rfl rfl (by kernel_rfl) (by kernel_rfl) (by kernel_rfl) (by kernel_rfl) hS (y_skip (by rfl)) ?_
                        simp only [Act.put, List.setIfInBounds_toArray, List.set_cons_zero, List.set_cons_succ]
                        refine mf_yield (i := 9) (d := 210) undef rfl rfl (by kernel_rfl) (by kernel_rfl) (by kernel_rfl) (by kernel_rfl) hS (y_skip (by rfl)) ?_
                        simp only [Act.put, List.setIfInBounds_toArray, List.set_cons_zero, List.set_cons_succ]
                        refine mf_yield (i := 10) (d := 211) (.bool false) rfl rfl (by kernel_rfl) (by kernel_rfl) (by kernel_rfl) (by kernel_rfl) hS (y_run (by rfl) fun _ => by rfl) ?_
                        simp only [Act.put, List.setIfInBounds_toArray, List.set_cons_zero, List.set_cons_succ]
                        refine mf_yield (i := 11) (d := 212) (.bool false) rfl rfl (by kernel_rfl) (by kernel_rfl) (by kernel_rfl) (by kernel_rfl) hS (y_run (by rfl) fun _ => by rfl) ?_
                        simp only [Act.put, List.setIfInBounds_toArray, List.set_cons_zero, List.set_cons_succ]
                        refine mf_yield (i := 12) (d := 213) (.bool false) rfl rfl (by kernel_rfl) (by kernel_rfl) (by kernel_rfl) (by kernel_rfl) hS (y_run (by rfl) fun _ => by rfl) ?_
                        simp only [Act.put, List.setIfInBounds_toArray, List.set_cons_zero, List.set_cons_succ]
                        refine mf_yield (i := 13) (d := 214) (.bool true) rfl rfl (by kernel_rfl) (by kernel_rfl) (by kernel_rfl) (by kernel_rfl) hS (y_not (b := false) (by rfl) rfl rfl) ?_
                        simp only [Act.put, List.setIfInBounds_toArray, List.set_cons_zero, List.set_cons_succ]
                        refine mf_yield (i := 14) (d := 215) (.bool true) rfl rfl (by kernel_rfl) (by kernel_rfl) (by kernel_rfl) (by kernel_rfl) hS (y_run (by rfl) fun _ => by rfl) ?_
                        simp only [Act.put, List.setIfInBounds_toArray, List.set_cons_zero, List.set_cons_succ]
                        refine mf_yield (i := 15) (d := 216) (.pointer (some ⟨b, 0, none⟩)) rfl rfl (by kernel_rfl) (by kernel_rfl) (by kernel_rfl) (by kernel_rfl) hS (y_run (by rfl) fun _ => by rfl) ?_
                        simp only [Act.put, List.setIfInBounds_toArray, List.set_cons_zero, List.set_cons_succ]
                        refine mf_yield (i := 16) (d := 217) (.int .i64 z) rfl rfl (by kernel_rfl) (by kernel_rfl) (by kernel_rfl) (by kernel_rfl) hS (y_run (by rfl) fun _ => by rfl) ?_
                        simp only [Act.put, List.setIfInBounds_toArray, List.set_cons_zero, List.set_cons_succ]
                        refine mf_ready [17] (by kernel_rfl) (by simp) (af_call (i := 17) (d := 218) (R := fun v w' => v = .int .i64 0 ∧ w' = W6.drew) #[.pointer (some ⟨b, 0, none⟩), .int .i64 z] rfl rfl (by rfl) rfl enter_reads (by kernel_rfl) ((reads_L HP6.out.dk.drew z HWF.out).mono fun e w' h => ⟨.int .i64 0, by rw [h.1, HRV.out], rfl, h.2⟩) (fun v w' h => h.2) ?_ AllReadyF.nil)
                        rintro v w8 ⟨rfl, rfl⟩ hS8
                        simp only [Act.put, List.setIfInBounds_toArray, List.set_cons_zero, List.set_cons_succ]
                        refine mf_yield (i := 18) (d := 219) (.bool false) rfl rfl (by kernel_rfl) (by kernel_rfl) (by kernel_rfl) (by kernel_rfl) hS8 (y_nei (by rfl) rfl rfl rfl (bne_self_eq_false _)) ?_
                        simp only [Act.put, List.setIfInBounds_toArray, List.set_cons_zero, List.set_cons_succ]
                        refine mf_yield (i := 19) (d := 220) (.bool false) rfl rfl (by kernel_rfl) (by kernel_rfl) (by kernel_rfl) (by kernel_rfl) hS8 (y_run (by rfl) fun _ => by rfl) ?_
                        simp only [Act.put, List.setIfInBounds_toArray, List.set_cons_zero, List.set_cons_succ]
                        refine mf_yield (i := 20) (d := 221) (.bool false) rfl rfl (by kernel_rfl) (by kernel_rfl) (by kernel_rfl) (by kernel_rfl) hS8 (y_run (by rfl) fun _ => by rfl) ?_
                        simp only [Act.put, List.setIfInBounds_toArray, List.set_cons_zero, List.set_cons_succ]
                        refine mf_done (by kernel_rfl) ?_
                        have HX := Lib.hid (show PlS w b (63 * k + 1 + (m + 1)) gx rb size (k + 1) size W6.drew from ⟨_, _, d.readD z, _, by rw [HRD.out]; exact (HP6.out.readX z).drew.mono (by omega), by rw [HSN.out.2]; exact hdn2, by rw [HSN.out.1]; exact HDZ.out⟩)
                        clear hS hS8 HP6
                        go_wp2_with fail
                        go_roundw
                        case rel => exact ⟨m + 1, by have := HZM.out; have := HSZ.out; omega, by have := HZM.out; simp only [Value.int.injEq, true_and]; omega, HX⟩
                        case measure => simp [intOf]; have := HSZ.out; omega
                    · as_aux_lemma =>
                        have hzb : decide (z < sz) = false := decide_eq_false hzs
                        have hre : d.reach z = 7 := (Dsk.reach_all d _).1 hdn
                        have HWF := Lib.hid (show (Lit.int .i64 (z : Int)).wf = true from WalkArith.wf_i64 (by omega))
                        have hrp : d.readP zP z = zP := by unfold Dsk.readP; rw [if_neg (by rw [hre]; omega)]
                        have HRD := Lib.hid (show (d.readD z).reads = d.reads by unfold Dsk.readD; rw [if_neg (by rw [hre]; omega)])
                        have HSN := Lib.hid (readD_sn d z)
                        go_wp2_with fail
                        refine (read_L HPl.out.dk z HWF.out (by omega)).mono ?_
                        rintro e w5 ⟨rfl, hd5, hk5⟩
                        rw [hre, hrp]
                        have HP5 := Lib.hid ((HPl.out.disk hd5 hk5 HSN.out.1 (HPl.out.fit.1.read z)).alloc (.cells zP 36))
                        have HVp := Lib.hid (At.new w5 zP 36)
                        clear hd5 hk5 hre hrp
                        go_wp2_with (refine wpList_store_row rfl 36 _ _ rfl w5.heap.size zP rfl rfl _ _ (heap_alloc_new _ _) (info_pag PZ.out) (rfl) PZ.out.one ?_; rw [World.setRow_alloc_new])
                        revert HVp; revert HP5
                        generalize Plus G w5.heap.size = G5
                        generalize w5.heap.size = gp
                        generalize World.alloc _ _ = W5
                        intro HP5 HVp
                        have c4 : W5.cell? ⟨gx, 4, none⟩ = some (.bool true) := by rw [← hdn]; exact HP5.out.cells.1
                        refine mf_start (fun w' => w' = W5.drew) (fun _ => false) rfl fun hS => ?_
                        refine mf_yield (i := 0) (d := 144) (.pointer (some ⟨gx, 4, none⟩)) rfl rfl (by kernel_rfl) (by kernel_rfl) (by kernel_rfl) (by kernel_rfl) hS (y_fieldO (by rfl) rfl rfl fld_r4 rfl) ?_
                        simp only [Act.put, List.setIfInBounds_toArray, List.set_cons_zero, List.set_cons_succ]
                        refine mf_yield (i := 1) (d := 145) (.bool true) rfl rfl (by kernel_rfl) (by kernel_rfl) (by kernel_rfl) (by kernel_rfl) hS (y_cell1 (by rfl) rfl rfl Try.underlying4 rfl (fun w' h => by rw [h]; exact c4)) ?_
                        simp only [Act.put, List.setIfInBounds_toArray, List.set_cons_zero, List.set_cons_succ]
                        refine mf_yield (i := 2) (d := 146) (.bool true) rfl rfl (by kernel_rfl) (by kernel_rfl) (by kernel_rfl) (by kernel_rfl) hS (y_run (by rfl) fun _ => by rfl) ?_
                        simp only [Act.put, List.setIfInBounds_toArray, List.set_cons_zero, List.set_cons_succ]
                        refine mf_yield (i := 3) (d := 147) (.int .i64 7) rfl rfl (by kernel_rfl) (by kernel_rfl) (by kernel_rfl) (by kernel_rfl) hS (y_run (by rfl) fun _ => by rfl) ?_
                        simp only [Act.put, List.setIfInBounds_toArray, List.set_cons_zero, List.set_cons_succ]
                        refine mf_yield (i := 4) (d := 148) (.bool false) rfl rfl (by kernel_rfl) (by kernel_rfl) (by kernel_rfl) (by kernel_rfl) hS (y_neo (by rfl) rfl rfl rfl rfl) ?_
                        simp only [Act.put, List.setIfInBounds_toArray, List.set_cons_zero, List.set_cons_succ]
                        refine mf_yield (i := 5) (d := 149) (.bool false) rfl rfl (by kernel_rfl) (by kernel_rfl) (by kernel_rfl) (by kernel_rfl) hS (y_run (by rfl) fun _ => by rfl) ?_
                        simp only [Act.put, List.setIfInBounds_toArray, List.set_cons_zero, List.set_cons_succ]
                        refine mf_yield (i := 6) (d := 150) (.agg zP) rfl rfl (by kernel_rfl) (by kernel_rfl) (by kernel_rfl) (by kernel_rfl) hS (y_load_range (by rfl) rfl rfl (fun w' h => by rw [h]; exact At.rng HVp.out) Try.underlying36 rfl (info_pag PZ.out)) ?_
                        simp only [Act.put, List.setIfInBounds_toArray, List.set_cons_zero, List.set_cons_succ]
                        refine mf_yield (i := 7) (d := 151) (.agg zP) rfl rfl (by kernel_rfl) (by kernel_rfl) (by kernel_rfl) (by kernel_rfl) hS (y_build_parts (L := []) (by rfl) rfl _ rfl built_z) ?_
                        simp only [Act.put, List.setIfInBounds_toArray, List.set_cons_zero, List.set_cons_succ]
                        refine mf_yield (i := 8) (d := 152) (.bool false) rfl rfl (by kernel_rfl) (by kernel_rfl) (by kernel_rfl) (by kernel_rfl) hS (y_neq (b := true) (by rfl) rfl rfl rfl (by kernel_rfl) (same_page PZ.out)) ?_
                        simp only [Act.put, List.setIfInBounds_toArray, List.set_cons_zero, List.set_cons_succ]
                        refine mf_yield (i := 9) (d := 153) (.bool false) rfl rfl (by kernel_rfl) (by kernel_rfl) (by kernel_rfl) (by kernel_rfl) hS (y_run (by rfl) fun _ => by rfl) ?_
                        simp only [Act.put, List.setIfInBounds_toArray, List.set_cons_zero, List.set_cons_succ]
                        refine mf_yield (i := 10) (d := 154) (.bool false) rfl rfl (by kernel_rfl) (by kernel_rfl) (by kernel_rfl) (by kernel_rfl) hS (y_run (by rfl) fun _ => by rfl) ?_
                        simp only [Act.put, List.setIfInBounds_toArray, List.set_cons_zero, List.set_cons_succ]
                        refine mf_yield (i := 11) (d := 155) (.bool false) rfl rfl (by kernel_rfl) (by kernel_rfl) (by kernel_rfl) (by kernel_rfl) hS (y_run (by rfl) fun _ => by rfl) ?_
                        simp only [Act.put, List.setIfInBounds_toArray, List.set_cons_zero, List.set_cons_succ]
                        refine mf_yield (i := 12) (d := 156) (.pointer (some ⟨gx, 4, none⟩)) rfl rfl (by kernel_rfl) (by kernel_rfl) (by kernel_rfl) (by kernel_rfl) hS (y_fieldO (by rfl) rfl rfl fld_r4 rfl) ?_
                        simp only [Act.put, List.setIfInBounds_toArray, List.set_cons_zero, List.set_cons_succ]
                        refine mf_yield (i := 13) (d := 157) (.bool true) rfl rfl (by kernel_rfl) (by kernel_rfl) (by kernel_rfl) (by kernel_rfl) hS (y_cell1 (by rfl) rfl rfl Try.underlying4 rfl (fun w' h => by rw [h]; exact c4)) ?_
                        simp only [Act.put, List.setIfInBounds_toArray, List.set_cons_zero, List.set_cons_succ]
                        refine mf_yield (i := 14) (d := 158) (.bool false) rfl rfl (by kernel_rfl) (by kernel_rfl) (by kernel_rfl) (by kernel_rfl) hS (y_not (b := true) (by rfl) rfl rfl) ?_
                        simp only [Act.put, List.setIfInBounds_toArray, List.set_cons_zero, List.set_cons_succ]
                        refine mf_yield (i := 15) (d := 159) (.bool false) rfl rfl (by kernel_rfl) (by kernel_rfl) (by kernel_rfl) (by kernel_rfl) hS (y_run (by rfl) fun _ => by rfl) ?_
                        simp only [Act.put, List.setIfInBounds_toArray, List.set_cons_zero, List.set_cons_succ]
                        refine mf_yield (i := 16) (d := 160) undef rfl rfl (by kernel_rfl) (by kernel_rfl) (by kernel_rfl) (by kernel_rfl) hS (y_skip (by rfl)) ?_
                        simp only [Act.put, List.setIfInBounds_toArray, List.set_cons_zero, List.set_cons_succ]
                        refine mf_yield (i := 17) (d := 161) undef rfl rfl (by kernel_rfl) (by kernel_rfl) (by kernel_rfl) (by kernel_rfl) hS (y_skip (by rfl)) ?_
                        simp only [Act.put, List.setIfInBounds_toArray, List.set_cons_zero, List.set_cons_succ]
                        refine mf_yield (i := 18) (d := 162) (.bool false) rfl rfl (by kernel_rfl) (by kernel_rfl) (by kernel_rfl) (by kernel_rfl) hS (y_run (by rfl) fun _ => by rfl) ?_
                        simp only [Act.put, List.setIfInBounds_toArray, List.set_cons_zero, List.set_cons_succ]
                        refine mf_yield (i := 19) (d := 163) (.bool false) rfl rfl (by kernel_rfl) (by kernel_rfl) (by kernel_rfl) (by kernel_rfl) hS (y_run (by rfl) fun _ => by rfl) ?_
                        simp only [Act.put, List.setIfInBounds_toArray, List.set_cons_zero, List.set_cons_succ]
                        refine mf_yield (i := 20) (d := 164) undef rfl rfl (by kernel_rfl) (by kernel_rfl) (by kernel_rfl) (by kernel_rfl) hS (y_skip (by rfl)) ?_
                        simp only [Act.put, List.setIfInBounds_toArray, List.set_cons_zero, List.set_cons_succ]
                        refine mf_yield (i := 21) (d := 165) undef rfl rfl (by kernel_rfl) (by kernel_rfl) (by kernel_rfl) (by kernel_rfl) hS (y_skip (by rfl)) ?_
                        simp only [Act.put, List.setIfInBounds_toArray, List.set_cons_zero, List.set_cons_succ]
                        refine mf_yield (i := 22) (d := 166) (.bool false) rfl rfl (by kernel_rfl) (by kernel_rfl) (by kernel_rfl) (by kernel_rfl) hS (y_run (by rfl) fun _ => by rfl) ?_
                        simp only [Act.put, List.setIfInBounds_toArray, List.set_cons_zero, List.set_cons_succ]
                        refine mf_yield (i := 23) (d := 167) (.bool false) rfl rfl (by kernel_rfl) (by kernel_rfl) (by kernel_rfl) (by kernel_rfl) hS (y_run (by rfl) fun _ => by rfl) ?_
                        simp only [Act.put, List.setIfInBounds_toArray, List.set_cons_zero, List.set_cons_succ]
                        refine mf_yield (i := 24) (d := 168) (.bool false) rfl rfl (by kernel_rfl) (by kernel_rfl) (by kernel_rfl) (by kernel_rfl) hS (y_run (by rfl) fun _ => by rfl) ?_
                        simp only [Act.put, List.setIfInBounds_toArray, List.set_cons_zero, List.set_cons_succ]
                        refine mf_yield (i := 25) (d := 169) (.pointer (some ⟨gx, 4, none⟩)) rfl rfl (by kernel_rfl) (by kernel_rfl) (by kernel_rfl) (by kernel_rfl) hS (y_fieldO (by rfl) rfl rfl fld_r4 rfl) ?_
                        simp only [Act.put, List.setIfInBounds_toArray, List.set_cons_zero, List.set_cons_succ]
                        refine mf_yield (i := 26) (d := 170) (.bool true) rfl rfl (by kernel_rfl) (by kernel_rfl) (by kernel_rfl) (by kernel_rfl) hS (y_cell1 (by rfl) rfl rfl Try.underlying4 rfl (fun w' h => by rw [h]; exact c4)) ?_
                        simp only [Act.put, List.setIfInBounds_toArray, List.set_cons_zero, List.set_cons_succ]
                        refine mf_yield (i := 27) (d := 171) (.bool false) rfl rfl (by kernel_rfl) (by kernel_rfl) (by kernel_rfl) (by kernel_rfl) hS (y_not (b := true) (by rfl) rfl rfl) ?_
                        simp only [Act.put, List.setIfInBounds_toArray, List.set_cons_zero, List.set_cons_succ]
                        refine mf_yield (i := 28) (d := 172) (.bool false) rfl rfl (by kernel_rfl) (by kernel_rfl) (by kernel_rfl) (by kernel_rfl) hS (y_run (by rfl) fun _ => by rfl) ?_
                        simp only [Act.put, List.setIfInBounds_toArray, List.set_cons_zero, List.set_cons_succ]
                        refine mf_yield (i := 29) (d := 173) undef rfl rfl (by kernel_rfl) (by kernel_rfl) (by kernel_rfl) (by kernel_rfl) hS (y_skip (by rfl)) ?_
                        simp only [Act.put, List.setIfInBounds_toArray, List.set_cons_zero, List.set_cons_succ]
                        refine mf_yield (i := 30) (d := 174) (.bool false) rfl rfl (by kernel_rfl) (by kernel_rfl) (by kernel_rfl) (by kernel_rfl) hS (y_run (by rfl) fun _ => by rfl) ?_
                        simp only [Act.put, List.setIfInBounds_toArray, List.set_cons_zero, List.set_cons_succ]
                        refine mf_yield (i := 31) (d := 175) (.bool false) rfl rfl (by kernel_rfl) (by kernel_rfl) (by kernel_rfl) (by kernel_rfl) hS (y_run (by rfl) fun _ => by rfl) ?_
                        simp only [Act.put, List.setIfInBounds_toArray, List.set_cons_zero, List.set_cons_succ]
                        refine mf_yield (i := 32) (d := 176) undef rfl rfl (by kernel_rfl) (by kernel_rfl) (by kernel_rfl) (by kernel_rfl) hS (y_skip (by rfl)) ?_
                        simp only [Act.put, List.setIfInBounds_toArray, List.set_cons_zero, List.set_cons_succ]
                        refine mf_yield (i := 33) (d := 177) undef rfl rfl (by kernel_rfl) (by kernel_rfl) (by kernel_rfl) (by kernel_rfl) hS (y_skip (by rfl)) ?_
                        simp only [Act.put, List.setIfInBounds_toArray, List.set_cons_zero, List.set_cons_succ]
                        refine mf_yield (i := 34) (d := 178) undef rfl rfl (by kernel_rfl) (by kernel_rfl) (by kernel_rfl) (by kernel_rfl) hS (y_skip (by rfl)) ?_
                        simp only [Act.put, List.setIfInBounds_toArray, List.set_cons_zero, List.set_cons_succ]
                        refine mf_yield (i := 35) (d := 179) undef rfl rfl (by kernel_rfl) (by kernel_rfl) (by kernel_rfl) (by kernel_rfl) hS (y_skip (by rfl)) ?_
                        simp only [Act.put, List.setIfInBounds_toArray, List.set_cons_zero, List.set_cons_succ]
                        refine mf_yield (i := 36) (d := 180) undef rfl rfl (by kernel_rfl) (by kernel_rfl) (by kernel_rfl) (by kernel_rfl) hS (y_skip (by rfl)) ?_
                        simp only [Act.put, List.setIfInBounds_toArray, List.set_cons_zero, List.set_cons_succ]
                        refine mf_yield (i := 37) (d := 181) undef rfl rfl (by kernel_rfl) (by kernel_rfl) (by kernel_rfl) (by kernel_rfl) hS (y_skip (by rfl)) ?_
                        simp only [Act.put, List.setIfInBounds_toArray, List.set_cons_zero, List.set_cons_succ]
                        refine mf_yield (i := 38) (d := 182) undef rfl rfl (by kernel_rfl) (by kernel_rfl) (by kernel_rfl) (by kernel_rfl) hS (y_skip (by rfl)) ?_
                        simp only [Act.put, List.setIfInBounds_toArray, List.set_cons_zero, List.set_cons_succ]
                        refine mf_yield (i := 39) (d := 183) undef rfl rfl (by kernel_rfl) (by kernel_rfl) (by kernel_rfl) (by kernel_rfl) hS (y_skip (by rfl)) ?_
                        simp only [Act.put, List.setIfInBounds_toArray, List.set_cons_zero, List.set_cons_succ]
                        refine mf_yield (i := 40) (d := 184) undef rfl rfl (by kernel_rfl) (by kernel_rfl) (by kernel_rfl) (by kernel_rfl) hS (y_skip (by rfl)) ?_
                        simp only [Act.put, List.setIfInBounds_toArray, List.set_cons_zero, List.set_cons_succ]
                        refine mf_yield (i := 41) (d := 185) undef rfl rfl (by kernel_rfl) (by kernel_rfl) (by kernel_rfl) (by kernel_rfl) hS (y_skip (by rfl)) ?_
                        simp only [Act.put, List.setIfInBounds_toArray, List.set_cons_zero, List.set_cons_succ]
                        refine mf_yield (i := 42) (d := 186) undef rfl rfl (by kernel_rfl) (by kernel_rfl) (by kernel_rfl) (by kernel_rfl) hS (y_skip (by rfl)) ?_
                        simp only [Act.put, List.setIfInBounds_toArray, List.set_cons_zero, List.set_cons_succ]
                        refine mf_yield (i := 43) (d := 187) (.bool false) rfl rfl (by kernel_rfl) (by kernel_rfl) (by kernel_rfl) (by kernel_rfl) hS (y_run (by rfl) fun _ => by rfl) ?_
                        simp only [Act.put, List.setIfInBounds_toArray, List.set_cons_zero, List.set_cons_succ]
                        refine mf_yield (i := 44) (d := 188) (.bool false) rfl rfl (by kernel_rfl) (by kernel_rfl) (by kernel_rfl) (by kernel_rfl) hS (y_run (by rfl) fun _ => by rfl) ?_
                        simp only [Act.put, List.setIfInBounds_toArray, List.set_cons_zero, List.set_cons_succ]
                        refine mf_done (by kernel_rfl) ?_
                        have HP6 := Lib.hid HP5.out.drew
                        have d4 : W5.drew.cell? ⟨gx, 4, none⟩ = some (.bool true) := c4
                        clear hS HP5 HVp c4
                        revert d4; revert HP6
                        generalize W5.drew = W6
                        intro HP6 d4
                        have HRV := Lib.hid (show (d.readD z).reads z = 0 by rw [HRD.out]; exact HPl.out.out z (by have := HDZ.out; have := HSZ.out; omega))
                        go_wp2_with fail
                        refine mf_start (fun w' => w' = W6.drew) (fun _ => false) rfl fun hS => ?_
                        refine mf_yield (i := 0) (d := 201) (.bool false) rfl rfl (by kernel_rfl) (by kernel_rfl) (by kernel_rfl) (by kernel_rfl) hS (y_run (by rfl) fun _ => by rfl) ?_
                        simp only [Act.put, List.setIfInBounds_toArray, List.set_cons_zero, List.set_cons_succ]
                        refine mf_yield (i := 1) (d := 202) (.bool false) rfl rfl (by kernel_rfl) (by kernel_rfl) (by kernel_rfl) (by kernel_rfl) hS (y_run (by rfl) fun _ => by rfl) ?_
                        simp only [Act.put, List.setIfInBounds_toArray, List.set_cons_zero, List.set_cons_succ]
                        refine mf_yield (i := 2) (d := 203) undef rfl rfl (by kernel_rfl) (by kernel_rfl) (by kernel_rfl) (by kernel_rfl) hS (y_skip (by rfl)) ?_
                        simp only [Act.put, List.setIfInBounds_toArray, List.set_cons_zero, List.set_cons_succ]
                        refine mf_yield (i := 3) (d := 204) undef rfl rfl (by kernel_rfl) (by kernel_rfl) (by kernel_rfl) (by kernel_rfl) hS (y_skip (by rfl)) ?_
                        simp only [Act.put, List.setIfInBounds_toArray, List.set_cons_zero, List.set_cons_succ]
                        refine mf_yield (i := 4) (d := 205) undef rfl rfl (by kernel_rfl) (by kernel_rfl) (by kernel_rfl) (by kernel_rfl) hS (y_skip (by rfl)) ?_
                        simp only [Act.put, List.setIfInBounds_toArray, List.set_cons_zero, List.set_cons_succ]
                        refine mf_yield (i := 5) (d := 206) undef rfl rfl (by kernel_rfl) (by kernel_rfl) (by kernel_rfl) (by kernel_rfl) hS (y_skip (by rfl)) ?_
                        simp only [Act.put, List.setIfInBounds_toArray, List.set_cons_zero, List.set_cons_succ]
                        refine mf_yield (i := 6) (d := 207) undef rfl rfl (by kernel_rfl) (by kernel_rfl) (by kernel_rfl) (by kernel_rfl) hS (y_skip (by rfl)) ?_
                        simp only [Act.put, List.setIfInBounds_toArray, List.set_cons_zero, List.set_cons_succ]
                        refine mf_yield (i := 7) (d := 208) undef rfl rfl (by kernel_rfl) (by kernel_rfl) (by kernel_rfl) (by kernel_rfl) hS (y_skip (by rfl)) ?_
                        simp only [Act.put, List.setIfInBounds_toArray, List.set_cons_zero, List.set_cons_succ]
                        refine mf_yield (i := 8) (d := 209) undef rfl rfl (by kernel_rfl) (by kernel_rfl) (by kernel_rfl) (by kernel_rfl) hS (y_skip (by rfl)) ?_
                        simp only [Act.put, List.setIfInBounds_toArray, List.set_cons_zero, List.set_cons_succ]
                        refine mf_yield (i := 9) (d := 210) undef rfl rfl (by kernel_rfl) (by kernel_rfl) (by kernel_rfl) (by kernel_rfl) hS (y_skip (by rfl)) ?_
                        simp only [Act.put, List.setIfInBounds_toArray, List.set_cons_zero, List.set_cons_succ]
                        refine mf_yield (i := 10) (d := 211) (.bool false) rfl rfl (by kernel_rfl) (by kernel_rfl) (by kernel_rfl) (by kernel_rfl) hS (y_run (by rfl) fun _ => by rfl) ?_
                        simp only [Act.put, List.setIfInBounds_toArray, List.set_cons_zero, List.set_cons_succ]
                        refine mf_yield (i := 11) (d := 212) (.bool false) rfl rfl (by kernel_rfl) (by kernel_rfl) (by kernel_rfl) (by kernel_rfl) hS (y_run (by rfl) fun _ => by rfl) ?_
                        simp only [Act.put, List.setIfInBounds_toArray, List.set_cons_zero, List.set_cons_succ]
                        refine mf_yield (i := 12) (d := 213) (.bool false) rfl rfl (by kernel_rfl) (by kernel_rfl) (by kernel_rfl) (by kernel_rfl) hS (y_run (by rfl) fun _ => by rfl) ?_
                        simp only [Act.put, List.setIfInBounds_toArray, List.set_cons_zero, List.set_cons_succ]
                        refine mf_yield (i := 13) (d := 214) (.bool true) rfl rfl (by kernel_rfl) (by kernel_rfl) (by kernel_rfl) (by kernel_rfl) hS (y_not (b := false) (by rfl) rfl rfl) ?_
                        simp only [Act.put, List.setIfInBounds_toArray, List.set_cons_zero, List.set_cons_succ]
                        refine mf_yield (i := 14) (d := 215) (.bool true) rfl rfl (by kernel_rfl) (by kernel_rfl) (by kernel_rfl) (by kernel_rfl) hS (y_run (by rfl) fun _ => by rfl) ?_
                        simp only [Act.put, List.setIfInBounds_toArray, List.set_cons_zero, List.set_cons_succ]
                        refine mf_yield (i := 15) (d := 216) (.pointer (some ⟨b, 0, none⟩)) rfl rfl (by kernel_rfl) (by kernel_rfl) (by kernel_rfl) (by kernel_rfl) hS (y_run (by rfl) fun _ => by rfl) ?_
                        simp only [Act.put, List.setIfInBounds_toArray, List.set_cons_zero, List.set_cons_succ]
                        refine mf_yield (i := 16) (d := 217) (.int .i64 z) rfl rfl (by kernel_rfl) (by kernel_rfl) (by kernel_rfl) (by kernel_rfl) hS (y_run (by rfl) fun _ => by rfl) ?_
                        simp only [Act.put, List.setIfInBounds_toArray, List.set_cons_zero, List.set_cons_succ]
                        refine mf_ready [17] (by kernel_rfl) (by simp) (af_call (i := 17) (d := 218) (R := fun v w' => v = .int .i64 0 ∧ w' = W6.drew) #[.pointer (some ⟨b, 0, none⟩), .int .i64 z] rfl rfl (by rfl) rfl enter_reads (by kernel_rfl) ((reads_L HP6.out.dk.drew z HWF.out).mono fun e w' h => ⟨.int .i64 0, by rw [h.1, HRV.out], rfl, h.2⟩) (fun v w' h => h.2) ?_ AllReadyF.nil)
                        rintro v w8 ⟨rfl, rfl⟩ hS8
                        simp only [Act.put, List.setIfInBounds_toArray, List.set_cons_zero, List.set_cons_succ]
                        refine mf_yield (i := 18) (d := 219) (.bool false) rfl rfl (by kernel_rfl) (by kernel_rfl) (by kernel_rfl) (by kernel_rfl) hS8 (y_nei (by rfl) rfl rfl rfl (bne_self_eq_false _)) ?_
                        simp only [Act.put, List.setIfInBounds_toArray, List.set_cons_zero, List.set_cons_succ]
                        refine mf_yield (i := 19) (d := 220) (.bool false) rfl rfl (by kernel_rfl) (by kernel_rfl) (by kernel_rfl) (by kernel_rfl) hS8 (y_run (by rfl) fun _ => by rfl) ?_
                        simp only [Act.put, List.setIfInBounds_toArray, List.set_cons_zero, List.set_cons_succ]
                        refine mf_yield (i := 20) (d := 221) (.bool false) rfl rfl (by kernel_rfl) (by kernel_rfl) (by kernel_rfl) (by kernel_rfl) hS8 (y_run (by rfl) fun _ => by rfl) ?_
                        simp only [Act.put, List.setIfInBounds_toArray, List.set_cons_zero, List.set_cons_succ]
                        refine mf_done (by kernel_rfl) ?_
                        have HX := Lib.hid (show PlS w b (63 * k + 1 + (m + 1)) gx rb size (k + 1) size W6.drew from ⟨_, _, d.readD z, _, by rw [HRD.out]; exact (HP6.out.readX z).drew.mono (by omega), by rw [HSN.out.2]; exact hdn2, by rw [HSN.out.1]; exact HDZ.out⟩)
                        clear hS hS8 HP6
                        go_wp2_with fail
                        go_roundw
                        case rel => exact ⟨m + 1, by have := HZM.out; have := HSZ.out; omega, by have := HZM.out; simp only [Value.int.injEq, true_and]; omega, HX⟩
                        case measure => simp [intOf]; have := HSZ.out; omega
              · go_wp2_with fail
                obtain ⟨a1, c1, a2, c2, _, e2, _⟩ := HPl.out.seen
                have HDS := Lib.hid (show ((d.size : Nat) : Int) = sz by rw [HDZ.out]; exact HSZ.out)
                refine mf_start (fun w' => w' = wr.drew) (fun _ => false) rfl fun hS => ?_
                refine mf_yield (i := 0) (d := 222) (.pointer (some ⟨b, 0, none⟩)) rfl rfl (by kernel_rfl) (by kernel_rfl) (by kernel_rfl) (by kernel_rfl) hS (y_run (by rfl) fun _ => by rfl) ?_
                simp only [Act.put, List.setIfInBounds_toArray, List.set_cons_zero, List.set_cons_succ]
                refine mf_yield (i := 2) (d := 224) (.pointer (some ⟨gx, 2, none⟩)) rfl rfl (by kernel_rfl) (by kernel_rfl) (by kernel_rfl) (by kernel_rfl) hS (y_fieldO (by rfl) rfl rfl fld_r2 rfl) ?_
                simp only [Act.put, List.setIfInBounds_toArray, List.set_cons_zero, List.set_cons_succ]
                refine mf_yield (i := 3) (d := 225) (.slice a2 d.n c2) rfl rfl (by kernel_rfl) (by kernel_rfl) (by kernel_rfl) (by kernel_rfl) hS (y_cell1 (by rfl) rfl rfl Try.underlying31 rfl (fun w' h => by rw [h]; exact e2)) ?_
                simp only [Act.put, List.setIfInBounds_toArray, List.set_cons_zero, List.set_cons_succ]
                refine mf_yield (i := 4) (d := 226) (.int .i64 ((d.n : Nat))) rfl rfl (by kernel_rfl) (by kernel_rfl) (by kernel_rfl) (by kernel_rfl) hS (y_len (by rfl) rfl Try.underlying31 rfl) ?_
                simp only [Act.put, List.setIfInBounds_toArray, List.set_cons_zero, List.set_cons_succ]
                refine mf_ready [1] (by kernel_rfl) (by simp) (af_call (i := 1) (d := 223) (R := fun v w' => v = .int .i64 (d.n : Nat) ∧ w' = wr.drew) #[.pointer (some ⟨b, 0, none⟩)] rfl rfl (by rfl) rfl enter_loose (by kernel_rfl) ((loose_L HPl.out.dk.drew).mono fun e w' h => ⟨.int .i64 (d.n : Nat), h.1, rfl, h.2⟩) (fun v w' h => h.2) ?_ AllReadyF.nil)
                rintro v w8 ⟨rfl, rfl⟩ hS8
                simp only [Act.put, List.setIfInBounds_toArray, List.set_cons_zero, List.set_cons_succ]
                refine mf_yield (i := 5) (d := 227) (.bool false) rfl rfl (by kernel_rfl) (by kernel_rfl) (by kernel_rfl) (by kernel_rfl) hS8 (y_nei (by rfl) rfl rfl rfl (bne_self_eq_false _)) ?_
                simp only [Act.put, List.setIfInBounds_toArray, List.set_cons_zero, List.set_cons_succ]
                refine mf_yield (i := 6) (d := 228) (.bool false) rfl rfl (by kernel_rfl) (by kernel_rfl) (by kernel_rfl) (by kernel_rfl) hS8 (y_run (by rfl) fun _ => by rfl) ?_
                simp only [Act.put, List.setIfInBounds_toArray, List.set_cons_zero, List.set_cons_succ]
                refine mf_yield (i := 7) (d := 229) (.pointer (some ⟨b, 0, none⟩)) rfl rfl (by kernel_rfl) (by kernel_rfl) (by kernel_rfl) (by kernel_rfl) hS8 (y_run (by rfl) fun _ => by rfl) ?_
                simp only [Act.put, List.setIfInBounds_toArray, List.set_cons_zero, List.set_cons_succ]
                refine mf_yield (i := 9) (d := 231) (.int .i64 sz) rfl rfl (by kernel_rfl) (by kernel_rfl) (by kernel_rfl) (by kernel_rfl) hS8 (y_run (by rfl) fun _ => by rfl) ?_
                simp only [Act.put, List.setIfInBounds_toArray, List.set_cons_zero, List.set_cons_succ]
                refine mf_ready [8] (by kernel_rfl) (by simp) (af_call (i := 8) (d := 230) (R := fun v w' => v = .int .i64 sz ∧ w' = wr.drew) #[.pointer (some ⟨b, 0, none⟩)] rfl rfl (by rfl) rfl enter_size (by kernel_rfl) ((size_L HPl.out.dk.drew).mono fun e w' h => ⟨.int .i64 sz, by rw [h.1, HDS.out], rfl, h.2⟩) (fun v w' h => h.2) ?_ AllReadyF.nil)
                rintro v w9 ⟨rfl, rfl⟩ hS9
                simp only [Act.put, List.setIfInBounds_toArray, List.set_cons_zero, List.set_cons_succ]
                refine mf_yield (i := 10) (d := 232) (.bool false) rfl rfl (by kernel_rfl) (by kernel_rfl) (by kernel_rfl) (by kernel_rfl) hS9 (y_nei (by rfl) rfl rfl rfl (bne_self_eq_false _)) ?_
                simp only [Act.put, List.setIfInBounds_toArray, List.set_cons_zero, List.set_cons_succ]
                refine mf_yield (i := 11) (d := 233) (.bool false) rfl rfl (by kernel_rfl) (by kernel_rfl) (by kernel_rfl) (by kernel_rfl) hS9 (y_run (by rfl) fun _ => by rfl) ?_
                simp only [Act.put, List.setIfInBounds_toArray, List.set_cons_zero, List.set_cons_succ]
                refine mf_done (by kernel_rfl) ?_
                have HX := Lib.hid (show PlS w b (63 * (k + 1)) gx rb size (k + 1) size wr.drew from ⟨G, Gr, d, v, HPl.out.drew.mono (by omega), hdn2, HDZ.out⟩)
                clear hS hS8 hS9 HPl e2
                go_wp2_with fail
                go_roundw
                case rel => exact ⟨k + 1, by omega, by go_num, HX⟩
                case measure => simp [intOf]; omega
    · obtain rfl : k = n := by omega
      have k1 : ¬ (k : Int) < (k : Int) := by omega
      have HX := Lib.hid (show Below w.heap.size w wr from by obtain ⟨_, _, _, _, h, _⟩ := HL.out; exact h.dk.1)
      clear hk HL
      go_wp2_with fail
      go_ret
      exact ⟨rfl, HX.out⟩
end Go.Proofs.Ytcahdjkmegnbfaa.Dk
