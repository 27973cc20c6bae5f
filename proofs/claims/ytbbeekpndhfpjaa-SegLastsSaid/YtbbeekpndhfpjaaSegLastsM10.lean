/- Texts of the walk, one behind the other. -/
import Derived.Test.YtbbeekpndhfpjaaSegLastsM9
import Derived.Test.YtbbeekpndhfpjaaSlB

section
/- Contracts of the program's disk: writes that are refused; settle, Sync, Crash. -/
set_option maxRecDepth 100000
set_option linter.unusedVariables false
set_option linter.unusedSimpArgs false
namespace Go.Proofs.Ytbbeekpndhfpjaa.Dk
open Go.RowKit Go.Proofs.Ytbbeekpndhfpjaa.Row

theorem fld_d3 : FldO 58 3 3 := fldO Try.underlying58 rfl rfl (s := 1) (by kernel_rfl) (by omega)
theorem fld_w0 : FldO 85 0 0 := fldO Try.underlying85 rfl rfl (s := 1) (by kernel_rfl) (by omega)
theorem fld_w1 : FldO 85 1 1 := fldO Try.underlying85 rfl rfl (s := 64) (by kernel_rfl) (by omega)

/-- A write that is refused. -/
theorem write_no (w : World) (b : Nat) (T : Nat → Prop) (N : Nat) (d : Dsk) (h : DkIs w b T N d) (i : Int) (P : Array Value) (hP : Pag P) (hr : d.writeE i ≠ 0) :
    Calls Try.prog 49 #[.pointer (some ⟨b, 0, none⟩), .int .i64 i, .agg P] w fun e w' => e = .returned (.int .i64 (d.writeE i)) ∧ DkTo w b T N d w' := by
  have hb := (Below.refl w.heap.size w).alloc (Nat.le_refl _) (.cells P 69)
  have h0 := h.below hb
  have HC := Lib.hid (reach_of _ b T N d h0 i)
  have HS := Lib.hid (spend_of _ b T N d h0)
  have HF := Lib.hid (show Fr T w (w.alloc (.cells P 69)) from .of_below hb)
  have HZ := Lib.hid (show w.heap.size ≤ (w.alloc (.cells P 69)).heap.size from hb.size)
  have HD := Lib.hid h0
  by_cases h1 : d.reach i = 0
  · have hu : d.fuse = 0 := by
      unfold Dsk.writeE at hr
      rw [if_pos h1] at hr
      by_cases c : d.fuse = 0
      · exact c
      · rw [if_neg c] at hr; exact absurd rfl hr
    have e : d.writeE i = 6 := by unfold Dsk.writeE; rw [if_pos h1, if_pos hu]
    have es : d.spent = d := by unfold Dsk.spent; rw [hu]; cases d; simp_all
    rw [h1] at HC
    rw [if_pos hu, es] at HS
    rw [e]
    clear h hb h0 hP hr h1 hu e es
    go_enter Try.func49, Try.ntmps49
    go_wp2_with fail
    refine HC.out.mono ?_
    rintro e w1 ⟨rfl, rfl⟩
    go_wp2_with fail
    refine HS.out.mono ?_
    rintro e W1 ⟨rfl, T', hd, hf, hT'⟩
    have HX := Lib.hid (show DkTo w b T N d W1 from ⟨T', hd, HF.out.same hf, fun k hk => (hT' k hk).imp id fun h => Nat.le_trans HZ.out h⟩)
    clear hd hf hT' HC HS
    go_wp2_with fail
    go_ret
    exact ⟨rfl, HX.out⟩
  · have e : d.writeE i = d.reach i := by unfold Dsk.writeE; rw [if_neg h1]
    have hne : (d.reach i != 0) = true := by rw [bne_iff_ne]; exact h1
    have HX := Lib.hid (show DkTo w b T N d (w.alloc (.cells P 69)) from ⟨T, h0, HF.out, fun _ h => .inl h⟩)
    rw [e]
    clear h hb h0 hP hr h1 e HS
    generalize d.reach i = r at hne HC ⊢
    go_enter Try.func49, Try.ntmps49
    go_wp2_with fail
    refine HC.out.mono ?_
    rintro e w1 ⟨rfl, rfl⟩
    go_wp2_with fail
    go_ret
    exact ⟨rfl, HX.out⟩

/-- All are kept. -/
def allB (_ : Nat) : Bool := true
theorem all_of (w : World) (k : Nat) : Calls Try.prog 37 #[.int .i64 k] w fun e w' => e = .returned (.bool (allB k)) ∧ w' = w := by
  go_enter Try.func37, Try.ntmps37
  go_wp2
  go_ret
  exact ⟨rfl, rfl⟩
/-- Whether write k is kept. -/
def keepB (n : Nat) (t : Nat → Bool) (k : Nat) : Bool := decide (k < n) && t k
theorem kept_of (w : World) (g : Nat) (a : Option Addr) (n c : Nat) (t : Nat → Bool) (hg : w.cell? ⟨g, 0, none⟩ = some (.slice a n c)) (hs : SlB w a n c t) (k : Nat) :
    Calls Try.prog 25 #[.int .i64 k, .pointer (some ⟨g, 0, none⟩)] w fun e w' => e = .returned (.bool (keepB n t k)) ∧ w' = w := by
  by_cases hk : k < n
  · obtain ⟨b, o, rfl, hc⟩ := hs.2.2 (by omega)
    have ck := hc k hk
    have e : keepB n t k = t k := by unfold keepB; rw [decide_eq_true hk, Bool.true_and]
    rw [e]
    generalize t k = v at ck ⊢
    have hk1 : (k : Int) < (n : Int) := by omega
    have hk0 : (0 : Int) ≤ (k : Int) := by omega
    clear hs hc hk e
    go_enter Try.func25, Try.ntmps25
    go_wp2
    go_ret
    exact ⟨rfl, rfl⟩
  · have e : keepB n t k = false := by unfold keepB; rw [decide_eq_false hk]; rfl
    rw [e]
    have hk1 : ¬ (k : Int) < (n : Int) := by omega
    clear hs hk e
    go_enter Try.func25, Try.ntmps25
    go_wp2
    go_ret
    exact ⟨rfl, rfl⟩

/-- Behind k writes: those that are kept are sure. -/
def StlS (w : World) (bs N : Nat) (d : Dsk) (kept : Nat → Bool) (w' : World) (k : Nat) : Prop :=
  Fr (Just bs) w w' ∧ ∃ f, MpI w' 3 .i64 bs (N - d.n + k) f ∧ ∀ i, (Lit.int .i64 i).wf = true → (f i).getD (.agg zP) = .agg (lay kept d.sure d.sec d.pg k i)
theorem StlS.below {w w' w'' : World} {bs N : Nat} {d : Dsk} {kept : Nat → Bool} {k : Nat} (h : StlS w bs N d kept w' k) (hb : Below w'.heap.size w' w'') : StlS w bs N d kept w'' k :=
  ⟨h.1.below_trans hb, let ⟨f, h1, h2⟩ := h.2; ⟨f, h1.below hb, h2⟩⟩
theorem StlS.no {w w' : World} {bs N : Nat} {d : Dsk} {kept : Nat → Bool} {k : Nat} (h : StlS w bs N d kept w' k) (hk : kept k = false) : StlS w bs N d kept w' (k + 1) :=
  ⟨h.1, let ⟨f, h1, h2⟩ := h.2; ⟨f, h1.mono (by omega), by rw [lay_next _ _ _ _ _ hk]; exact h2⟩⟩
theorem StlS.yes {w w' w'' : World} {bs N : Nat} {d : Dsk} {kept : Nat → Bool} {k : Nat} {f : Int → Option Value} (h : Fr (Just bs) w w') (hv : ∀ i, (Lit.int .i64 i).wf = true → (f i).getD (.agg zP) = .agg (lay kept d.sure d.sec d.pg k i)) (hk : kept k = true)
    (hm : MpI w'' 3 .i64 bs (N - d.n + k + 1) fun j => if j = d.sec k then some (.agg (d.pg k)) else f j) (hg : w'.grownBy w'' (some bs)) : StlS w bs N d kept w'' (k + 1) := by
  refine ⟨h.grown hg fun k hk => by simp only [Option.some.injEq] at hk; exact .inl hk.symm, _, hm, fun j hj => ?_⟩
  show (if j = d.sec k then some (Value.agg (d.pg k)) else f j).getD _ = Value.agg (lay kept d.sure d.sec d.pg (k + 1) j)
  rw [lay]
  by_cases e : j = d.sec k
  · rw [if_pos e, if_pos ⟨hk, e.symm⟩]; rfl
  · rw [if_neg e, if_neg (fun h => e h.2.symm)]; exact hv j hj
/-- All is settled. -/
theorem DkM.settled {w w1 w3 : World} {b : Nat} {T : Nat → Prop} {N : Nat} {d : Dsk} {bs bl br : Nat} {a : Option Addr} {c : Nat} (h : DkM w b T N d bs bl br a c) {kept : Nat → Bool} (hs : StlS w bs N d kept w1 d.n)
    (hm : MpI w3 3 .i64 bl 0 fun _ => none) (hg : (w1.setCell ⟨b, 4, none⟩ (.slice none 0 0)).grownBy w3 (some bl)) : DkTo w b T N (d.settled kept) w3 := by
  obtain ⟨h0, _, _, ⟨f3, h3, h3'⟩, hL, h5, h6, h7, h8, h9⟩ := h
  obtain ⟨hf, f, hm1, hv⟩ := hs
  have z1 := hf.size
  have z3 := hg.size
  have hb0 := h0.lt
  have hbs := h7 bs h5.2.1
  have hbl := h7 bl h5.2.2.1
  have e2 : (w1.setCell ⟨b, 4, none⟩ (.slice none 0 0)).heap.size = w1.heap.size := by simp [World.setCell]
  have q : ∀ k, k < w.heap.size → k ≠ bs → k ≠ b → k ≠ bl → w3.heap[k]? = w.heap[k]? := fun k hk e1 e2' e3 =>
    (hg.block k (by omega) fun e => e3 (by simpa using e)).trans ((heap_setCell_other _ _ _ _ e2').trans (hf.block k hk e1))
  have hF : Fr T w w3 := ((hf.mono fun i _ hi => by rw [just_iff] at hi; subst hi; exact h5.2.1).setCell (.inl h5.1) _).grown hg fun k hk => by simp only [Option.some.injEq] at hk; subst hk; exact .inl h5.2.2.1
  refine ⟨T, ⟨bs, bl, br, none, 0, ?_⟩, hF, fun _ h => .inl h⟩
  refine ⟨?_, ⟨f, ?_, hv⟩, ⟨_, hm.mono (Nat.zero_le _), fun _ _ => rfl⟩, ⟨f3, h3.keep (q br h3.lt (by omega) (by omega) (by omega)), h3'⟩, Els.nil _ _ _ _ _, ⟨h5.1, h5.2.1, h5.2.2.1, h5.2.2.2.1, fun k hk => by simp [Value.ownBlock] at hk⟩, ⟨h6.1, fun k hk => by simp [Value.ownBlock] at hk⟩, fun k hk => Nat.lt_of_lt_of_le (h7 k hk) hF.size, ⟨Nat.zero_le _, h8.2⟩, ⟨fun i => ?_, fun k hk => absurd hk (Nat.not_lt_zero k)⟩⟩
  · have e1 : At w1 b (dkR d.size d.down d.fuse bs a d.n c bl br) 58 := (hf.block b h0.lt h6.1.1).trans h0
    exact (hg.block b (by omega) (by have := h6.1.2.1; simp; omega)).trans (e1.setCell (i := 4) (v := .slice none 0 0))
  · have := (hm1.keep (w' := w3) ((hg.block bs (by have := hm1.lt; omega) (by have := h6.1.2.2.2.1; simp; omega)).trans (heap_setCell_other _ _ _ _ (Ne.symm h6.1.1))))
    exact this.mono (by show N - d.n + d.n ≤ N - 0; have := h8.1; omega)
  · have : ∀ n, n ≤ d.n → Pag (lay kept d.sure d.sec d.pg n i) := fun n => by
      induction n with
      | zero => intro _; exact h9.1 i
      | succ n ih =>
        intro hn
        rw [lay]
        split
        · exact (h9.2 n (by omega)).1
        · exact ih (by omega)
    exact this d.n (Nat.le_refl _)
theorem zero_write (w : World) : (zeroValue 85).run Try.prog w = .ok (.agg (wrR 0 zP)) w := by kernel_rfl

set_option maxHeartbeats 2000000 in
theorem settle_all (w : World) (b : Nat) (T : Nat → Prop) (N : Nat) (d : Dsk) (h : DkIs w b T N d) (hN : N ≤ 1000000)  :
    Calls Try.prog 24 #[.pointer (some ⟨b, 0, none⟩), .func (.func 37) #[] #[]] w fun e w' => e = .returned (.tuple #[]) ∧ DkTo w b T N (d.settled allB) w' := by
  obtain ⟨bs, bl, br, a, c, hM⟩ := h
  obtain ⟨n, hn⟩ : ∃ n, d.n = n := ⟨_, rfl⟩
  obtain ⟨c0, c1, c2, c3, c4, c5, c6, f0⟩ := hM.cells
  have HM := Lib.hid hM
  have HN := Lib.hid hN
  have HNX := Lib.hid hn
  have HSC := Lib.hid (fun k hk => (hM.pgs.2 k hk).2)
  have hz := zero_write
  have HST := Lib.hid (show StlS w bs N d allB w 0 from ⟨Fr.refl _ _, let ⟨f, h1, h2⟩ := hM.sure; ⟨f, h1, h2⟩⟩)
  have HCK := Lib.hid (fun (w' : World) (_ : Fr (Just bs) w w') (k : Nat) => all_of w' k)
  have hn3 : n ≤ 1000000 := by have := hM.num.1; omega
  rw [hn] at c4
  clear hM hN hn c0 c1 c2 c3 c5 c6 f0
  go_enter Try.func24, Try.ntmps24
  go_wp2_with fail
  go_loopw [11] (fun i w' => ∃ k : Nat, k ≤ n ∧ i = .int .i64 k ∧ Hid (StlS w bs N d allB w' k)) (fun i _ => n - (intOf i).toNat)
  case atStart => exact ⟨0, Nat.zero_le _, rfl, HST⟩
  case round =>
    obtain ⟨k, hk, rfl, HS⟩ := hrel
    clear HST c4
    have HB := Lib.hid (show wr.cell? ⟨b, 3, none⟩ = some (.map (some bs)) ∧ wr.cell? ⟨b, 4, none⟩ = some (.slice a n c) ∧ wr.cell? ⟨b, 5, none⟩ = some (.map (some bl)) ∧ wr.frozen? ⟨b, 4, none⟩ = false from by
      have e : wr.heap[b]? = w.heap[b]? := HS.out.1.block b (HM.out.lt b HM.out.own.1) HM.out.ne.1.1
      obtain ⟨_, _, _, c3, c4, c5, _, _⟩ := HM.out.cells
      rw [HNX.out] at c4
      exact ⟨(World.cell?_of_block (w := w) e).trans c3, (World.cell?_of_block (w := w) e).trans c4, (World.cell?_of_block (w := w) e).trans c5, At.frozen (show At wr b _ _ from e.trans HM.out.row) 4⟩)
    by_cases hlt : k < n
    · have k1 : (k : Int) < (n : Int) := by omega
      obtain ⟨g, hg, hg0⟩ : ∃ g, a = some ⟨g, 0, none⟩ ∧ g ≠ bs := by
        obtain ⟨g, hg, _, _⟩ := HM.out.loose.addr (by rw [HNX.out]; omega)
        exact ⟨g, hg, (HM.out.ne.2 g (by rw [hg]; rfl)).2.1⟩
      subst hg
      have HLO := Lib.hid (show Els wr 0 85 65 (some ⟨g, 0, none⟩) d.n c (fun k => wrR (d.sec k) (d.pg k)) from HM.out.loose.keep fun q hq => HS.out.1.block q (HM.out.loose.block q hq).2 (HM.out.ne.2 q hq).2.1)
      have HR := Lib.hid (HLO.out.range (i := k) (by rw [HNX.out]; exact hlt))
      have HP := Lib.hid (HM.out.pgs.2 k (by rw [HNX.out]; exact hlt)).1
      have HSK := Lib.hid (HSC.out k (by rw [HNX.out]; exact hlt))
      obtain ⟨s, es⟩ : ∃ s, d.sec k = s := ⟨_, rfl⟩
      obtain ⟨P, eP⟩ : ∃ P, d.pg k = P := ⟨_, rfl⟩
      have HES := Lib.hid es
      have HEP := Lib.hid eP
      rw [es] at HSK HR
      rw [eP] at HP HR
      have rx := run_ex (g := g) (o := 0) (n := n) (c := c) elt_w hlt
      rw [Nat.zero_add] at rx
      clear HLO es eP hg0
      have hb1 := (Below.refl wr.heap.size wr).alloc (Nat.le_refl _) (.cells (wrR s P) 85)
      have HA := Lib.hid (At.new wr (wrR s P) 85)
      have HS1 := Lib.hid (HS.out.below hb1)
      have HC3 := Lib.hid ((Below.cell hb1 (block_lt_of_cell HB.out.1)).trans HB.out.1)
      have HZ := Lib.hid (show w.heap.size ≤ wr.heap.size from HS.out.1.size)
      have HK := Lib.hid (HCK.out _ HS1.out.1 k)
      clear hb1
      go_wp2_with (first
        | refine wpList_load_range (by rfl) 85 _ rfl g (k * 65) rfl HR.out Try.underlying85 rfl (info_write HP.out) ?_
        | (refine wpList_store_row rfl 85 _ _ rfl wr.heap.size (wrR s P) rfl rfl _ _ (heap_alloc_new _ _) (info_write HP.out) (by rw [wrR_size HP.out, wrR_size pag_z]) (wrR_one HP.out) ?_
           rw [World.setRow_alloc_new]))
      refine HK.out.mono ?_
      rintro e w1 ⟨rfl, rfl⟩
      revert HA HS1 HC3
      generalize wr.heap.size = gl
      generalize World.alloc _ _ = W1
      intro HA HS1 HC3
      clear HK HR HB HS
      by_cases hkk : allB k = true
      · rw [hkk]
        have HKK := Lib.hid hkk
        clear hkk
        go_wp2_with fail
        refine mf_start (fun w' => w'.cell? ⟨b, 3, none⟩ = some (.map (some bs)) ∧ At w' gl (wrR s P) 85) (fun j => j == 8) ⟨HC3.out, HA.out⟩ fun hS => ?_
        refine mf_yield (i := 0) (d := 19) (.pointer (some ⟨b, 0, none⟩)) rfl rfl (by kernel_rfl) (by kernel_rfl) (by kernel_rfl) (by kernel_rfl) hS (y_run (by rfl) fun _ => by rfl) ?_
        simp only [Act.put, List.setIfInBounds_toArray, List.set_cons_zero, List.set_cons_succ]
        refine mf_yield (i := 1) (d := 20) (.pointer (some ⟨b, 0, none⟩)) rfl rfl (by kernel_rfl) (by kernel_rfl) (by kernel_rfl) (by kernel_rfl) hS (y_run (by rfl) fun _ => by rfl) ?_
        simp only [Act.put, List.setIfInBounds_toArray, List.set_cons_zero, List.set_cons_succ]
        refine mf_yield (i := 2) (d := 21) (.pointer (some ⟨b, 3, none⟩)) rfl rfl (by kernel_rfl) (by kernel_rfl) (by kernel_rfl) (by kernel_rfl) hS (y_fieldO (by rfl) rfl rfl fld_d3 rfl) ?_
        simp only [Act.put, List.setIfInBounds_toArray, List.set_cons_zero, List.set_cons_succ]
        refine mf_yield (i := 3) (d := 22) (.map (some bs)) rfl rfl (by kernel_rfl) (by kernel_rfl) (by kernel_rfl) (by kernel_rfl) hS (y_cell1 (by rfl) rfl rfl Try.underlying54 rfl (fun _ h => h.1)) ?_
        simp only [Act.put, List.setIfInBounds_toArray, List.set_cons_zero, List.set_cons_succ]
        refine mf_yield (i := 4) (d := 23) (.pointer (some ⟨gl, 0, none⟩)) rfl rfl (by kernel_rfl) (by kernel_rfl) (by kernel_rfl) (by kernel_rfl) hS (y_fieldO (by rfl) rfl rfl fld_w0 rfl) ?_
        simp only [Act.put, List.setIfInBounds_toArray, List.set_cons_zero, List.set_cons_succ]
        refine mf_yield (i := 5) (d := 24) (.int .i64 s) rfl rfl (by kernel_rfl) (by kernel_rfl) (by kernel_rfl) (by kernel_rfl) hS (y_cell1 (by rfl) rfl rfl Try.underlying3 rfl (fun _ h => (h.2.cell 0).trans (wrR_0 s P))) ?_
        simp only [Act.put, List.setIfInBounds_toArray, List.set_cons_zero, List.set_cons_succ]
        refine mf_yield (i := 6) (d := 25) (.pointer (some ⟨gl, 1, none⟩)) rfl rfl (by kernel_rfl) (by kernel_rfl) (by kernel_rfl) (by kernel_rfl) hS (y_fieldO (by rfl) rfl rfl fld_w1 rfl) ?_
        simp only [Act.put, List.setIfInBounds_toArray, List.set_cons_zero, List.set_cons_succ]
        refine mf_yield (i := 7) (d := 26) (.agg P) rfl rfl (by kernel_rfl) (by kernel_rfl) (by kernel_rfl) (by kernel_rfl) hS (y_load_range (by rfl) rfl rfl (fun w' h => fun j v hj => by rw [Array.getElem?_toList] at hj; exact (h.2.cell (1 + j)).trans ((wrR_1 s P j).trans hj)) Try.underlying69 rfl (info_pag HP.out)) ?_
        simp only [Act.put, List.setIfInBounds_toArray, List.set_cons_zero, List.set_cons_succ]
        refine mf_of (i := 8) rfl (by kernel_rfl) (by rfl) fun Q' hQ => ?_
        obtain ⟨f, hf1, hv1⟩ := HS1.out.2
        have HF1 := Lib.hid hf1
        have HV1 := Lib.hid hv1
        refine wpList_put_mpi (w := W1.drew) (n := N - d.n + k) rfl _ _ _ rfl Try.underlying3 Try.underlying54 rfl (show MpI W1.drew _ _ bs _ f from HF1.out) (by have := HN.out; have := HM.out.num.1; have := HNX.out; unfold maxLen; omega) rfl rfl HSK.out ?_
        intro W2 hm2 hg2
        have HX := Lib.hid (show StlS w bs N d allB W2 (k + 1) from StlS.yes (w' := W1.drew) HS1.out.1.drew HV1.out HKK.out (by rw [HES.out, HEP.out]; exact hm2) hg2)
        refine hQ _ _ (fun h => by cases h) ?_
        clear hQ hm2 hg2 hf1 hv1 HF1 HV1 hS HS1 HA HC3
        clear Q'
        simp only [Act.put]
        refine mf_done (by kernel_rfl) ?_
        go_wp2_with fail
        go_roundw
        case rel => exact ⟨k + 1, by omega, by go_num, HX⟩
        case measure => simp [intOf]; omega
      · have hkf : allB k = false := by simpa using hkk
        rw [hkf]
        have HX := Lib.hid (HS1.out.no hkf)
        clear hkk hkf HA HS1 HC3
        go_wp2_with fail
        go_roundw
        case rel => exact ⟨k + 1, by omega, by go_num, HX⟩
        case measure => simp [intOf]; omega
    · obtain rfl : k = n := by omega
      have k1 : ¬ (k : Int) < (k : Int) := by omega
      obtain ⟨c3, c4, c5, f4⟩ := HB.out
      obtain ⟨f2, hf2, _⟩ := HM.out.last
      have HML := Lib.hid (show MpI (wr.setCell ⟨b, 4, none⟩ (.slice none 0 0)) 3 .i64 bl N f2 from hf2.keep ((heap_setCell_other _ _ _ _ (Ne.symm HM.out.ne.1.2.1)).trans (HS.out.1.block bl hf2.lt (Ne.symm HM.out.ne.1.2.2.2.1))))
      clear hf2 c3 HB hlt
      go_wp2_with (first
        | (refine wpList_store1 rfl 56 _ _ rfl rfl rfl (by kernel_rfl) rfl c4 f4 ?_
           have d5 : (wr.setCell ⟨b, 4, none⟩ (.slice none 0 0)).cell? ⟨b, 5, none⟩ = some (.map (some bl)) := (World.cell?_setCell_other _ _ _ _ (by simp)).trans c5
           revert HML d5
           generalize hW : World.setCell _ _ _ = W2
           intro HML d5)
        | (refine wpList_clear_mpi rfl _ _ rfl Try.underlying55 rfl HML.out ?_
           intro W3 hm3 hg3
           have HX := Lib.hid (show DkTo w b T N (d.settled allB) W3 from HM.out.settled (w1 := wr) (by rw [HNX.out]; exact HS.out) hm3 (by rw [hW]; exact hg3))
           clear hm3 hg3))
      go_end0
      exact ⟨rfl, HX.out⟩

set_option maxHeartbeats 2000000 in
theorem settle_kept (w : World) (b : Nat) (T : Nat → Prop) (N : Nat) (d : Dsk) (h : DkIs w b T N d) (hN : N ≤ 1000000) (g : Nat) (ka : Option Addr) (kn kc : Nat) (t : Nat → Bool) (hg : w.cell? ⟨g, 0, none⟩ = some (.slice ka kn kc)) (hB : SlB w ka kn kc t) (hgT : ¬ T g) (hkT : 0 < kn → ∀ b o, ka = some ⟨b, o, none⟩ → ¬ T b) :
    Calls Try.prog 24 #[.pointer (some ⟨b, 0, none⟩), .func (.func 25) #[] #[.pointer (some ⟨g, 0, none⟩)]] w fun e w' => e = .returned (.tuple #[]) ∧ DkTo w b T N (d.settled (keepB kn t)) w' := by
  obtain ⟨bs, bl, br, a, c, hM⟩ := h
  obtain ⟨n, hn⟩ : ∃ n, d.n = n := ⟨_, rfl⟩
  obtain ⟨c0, c1, c2, c3, c4, c5, c6, f0⟩ := hM.cells
  have HM := Lib.hid hM
  have HN := Lib.hid hN
  have HNX := Lib.hid hn
  have HSC := Lib.hid (fun k hk => (hM.pgs.2 k hk).2)
  have hz := zero_write
  have HST := Lib.hid (show StlS w bs N d (keepB kn t) w 0 from ⟨Fr.refl _ _, let ⟨f, h1, h2⟩ := hM.sure; ⟨f, h1, h2⟩⟩)
  have HCK := Lib.hid (fun (w' : World) (hf : Fr (Just bs) w w') (k : Nat) => kept_of w' g ka kn kc t (hf.cell hg fun e => hgT (by rw [just_iff] at e; dsimp only at e; subst e; exact hM.own.2.1)) ⟨hB.1, hB.2.1, fun hn => by
    obtain ⟨b', o, e, hc⟩ := hB.2.2 hn
    exact ⟨b', o, e, fun i hi => hf.cell (hc i hi) fun e' => hkT hn b' o e (by rw [just_iff] at e'; dsimp only at e'; subst e'; exact hM.own.2.1)⟩⟩ k)
  have hn3 : n ≤ 1000000 := by have := hM.num.1; omega
  rw [hn] at c4
  clear hM hN hn c0 c1 c2 c3 c5 c6 f0
  go_enter Try.func24, Try.ntmps24
  go_wp2_with fail
  go_loopw [11] (fun i w' => ∃ k : Nat, k ≤ n ∧ i = .int .i64 k ∧ Hid (StlS w bs N d (keepB kn t) w' k)) (fun i _ => n - (intOf i).toNat)
  case atStart => exact ⟨0, Nat.zero_le _, rfl, HST⟩
  case round =>
    obtain ⟨k, hk, rfl, HS⟩ := hrel
    clear HST c4
    have HB := Lib.hid (show wr.cell? ⟨b, 3, none⟩ = some (.map (some bs)) ∧ wr.cell? ⟨b, 4, none⟩ = some (.slice a n c) ∧ wr.cell? ⟨b, 5, none⟩ = some (.map (some bl)) ∧ wr.frozen? ⟨b, 4, none⟩ = false from by
      have e : wr.heap[b]? = w.heap[b]? := HS.out.1.block b (HM.out.lt b HM.out.own.1) HM.out.ne.1.1
      obtain ⟨_, _, _, c3, c4, c5, _, _⟩ := HM.out.cells
      rw [HNX.out] at c4
      exact ⟨(World.cell?_of_block (w := w) e).trans c3, (World.cell?_of_block (w := w) e).trans c4, (World.cell?_of_block (w := w) e).trans c5, At.frozen (show At wr b _ _ from e.trans HM.out.row) 4⟩)
    by_cases hlt : k < n
    · have k1 : (k : Int) < (n : Int) := by omega
      obtain ⟨g, hg, hg0⟩ : ∃ g, a = some ⟨g, 0, none⟩ ∧ g ≠ bs := by
        obtain ⟨g, hg, _, _⟩ := HM.out.loose.addr (by rw [HNX.out]; omega)
        exact ⟨g, hg, (HM.out.ne.2 g (by rw [hg]; rfl)).2.1⟩
      subst hg
      have HLO := Lib.hid (show Els wr 0 85 65 (some ⟨g, 0, none⟩) d.n c (fun k => wrR (d.sec k) (d.pg k)) from HM.out.loose.keep fun q hq => HS.out.1.block q (HM.out.loose.block q hq).2 (HM.out.ne.2 q hq).2.1)
      have HR := Lib.hid (HLO.out.range (i := k) (by rw [HNX.out]; exact hlt))
      have HP := Lib.hid (HM.out.pgs.2 k (by rw [HNX.out]; exact hlt)).1
      have HSK := Lib.hid (HSC.out k (by rw [HNX.out]; exact hlt))
      obtain ⟨s, es⟩ : ∃ s, d.sec k = s := ⟨_, rfl⟩
      obtain ⟨P, eP⟩ : ∃ P, d.pg k = P := ⟨_, rfl⟩
      have HES := Lib.hid es
      have HEP := Lib.hid eP
      rw [es] at HSK HR
      rw [eP] at HP HR
      have rx := run_ex (g := g) (o := 0) (n := n) (c := c) elt_w hlt
      rw [Nat.zero_add] at rx
      clear HLO es eP hg0
      have hb1 := (Below.refl wr.heap.size wr).alloc (Nat.le_refl _) (.cells (wrR s P) 85)
      have HA := Lib.hid (At.new wr (wrR s P) 85)
      have HS1 := Lib.hid (HS.out.below hb1)
      have HC3 := Lib.hid ((Below.cell hb1 (block_lt_of_cell HB.out.1)).trans HB.out.1)
      have HZ := Lib.hid (show w.heap.size ≤ wr.heap.size from HS.out.1.size)
      have HK := Lib.hid (HCK.out _ HS1.out.1 k)
      clear hb1
      go_wp2_with (first
        | refine wpList_load_range (by rfl) 85 _ rfl g (k * 65) rfl HR.out Try.underlying85 rfl (info_write HP.out) ?_
        | (refine wpList_store_row rfl 85 _ _ rfl wr.heap.size (wrR s P) rfl rfl _ _ (heap_alloc_new _ _) (info_write HP.out) (by rw [wrR_size HP.out, wrR_size pag_z]) (wrR_one HP.out) ?_
           rw [World.setRow_alloc_new]))
      refine HK.out.mono ?_
      rintro e w1 ⟨rfl, rfl⟩
      revert HA HS1 HC3
      generalize wr.heap.size = gl
      generalize World.alloc _ _ = W1
      intro HA HS1 HC3
      clear HK HR HB HS
      by_cases hkk : (keepB kn t) k = true
      · rw [hkk]
        have HKK := Lib.hid hkk
        clear hkk
        go_wp2_with fail
        refine mf_start (fun w' => w'.cell? ⟨b, 3, none⟩ = some (.map (some bs)) ∧ At w' gl (wrR s P) 85) (fun j => j == 8) ⟨HC3.out, HA.out⟩ fun hS => ?_
        refine mf_yield (i := 0) (d := 19) (.pointer (some ⟨b, 0, none⟩)) rfl rfl (by kernel_rfl) (by kernel_rfl) (by kernel_rfl) (by kernel_rfl) hS (y_run (by rfl) fun _ => by rfl) ?_
        simp only [Act.put, List.setIfInBounds_toArray, List.set_cons_zero, List.set_cons_succ]
        refine mf_yield (i := 1) (d := 20) (.pointer (some ⟨b, 0, none⟩)) rfl rfl (by kernel_rfl) (by kernel_rfl) (by kernel_rfl) (by kernel_rfl) hS (y_run (by rfl) fun _ => by rfl) ?_
        simp only [Act.put, List.setIfInBounds_toArray, List.set_cons_zero, List.set_cons_succ]
        refine mf_yield (i := 2) (d := 21) (.pointer (some ⟨b, 3, none⟩)) rfl rfl (by kernel_rfl) (by kernel_rfl) (by kernel_rfl) (by kernel_rfl) hS (y_fieldO (by rfl) rfl rfl fld_d3 rfl) ?_
        simp only [Act.put, List.setIfInBounds_toArray, List.set_cons_zero, List.set_cons_succ]
        refine mf_yield (i := 3) (d := 22) (.map (some bs)) rfl rfl (by kernel_rfl) (by kernel_rfl) (by kernel_rfl) (by kernel_rfl) hS (y_cell1 (by rfl) rfl rfl Try.underlying54 rfl (fun _ h => h.1)) ?_
        simp only [Act.put, List.setIfInBounds_toArray, List.set_cons_zero, List.set_cons_succ]
        refine mf_yield (i := 4) (d := 23) (.pointer (some ⟨gl, 0, none⟩)) rfl rfl (by kernel_rfl) (by kernel_rfl) (by kernel_rfl) (by kernel_rfl) hS (y_fieldO (by rfl) rfl rfl fld_w0 rfl) ?_
        simp only [Act.put, List.setIfInBounds_toArray, List.set_cons_zero, List.set_cons_succ]
        refine mf_yield (i := 5) (d := 24) (.int .i64 s) rfl rfl (by kernel_rfl) (by kernel_rfl) (by kernel_rfl) (by kernel_rfl) hS (y_cell1 (by rfl) rfl rfl Try.underlying3 rfl (fun _ h => (h.2.cell 0).trans (wrR_0 s P))) ?_
        simp only [Act.put, List.setIfInBounds_toArray, List.set_cons_zero, List.set_cons_succ]
        refine mf_yield (i := 6) (d := 25) (.pointer (some ⟨gl, 1, none⟩)) rfl rfl (by kernel_rfl) (by kernel_rfl) (by kernel_rfl) (by kernel_rfl) hS (y_fieldO (by rfl) rfl rfl fld_w1 rfl) ?_
        simp only [Act.put, List.setIfInBounds_toArray, List.set_cons_zero, List.set_cons_succ]
        refine mf_yield (i := 7) (d := 26) (.agg P) rfl rfl (by kernel_rfl) (by kernel_rfl) (by kernel_rfl) (by kernel_rfl) hS (y_load_range (by rfl) rfl rfl (fun w' h => fun j v hj => by rw [Array.getElem?_toList] at hj; exact (h.2.cell (1 + j)).trans ((wrR_1 s P j).trans hj)) Try.underlying69 rfl (info_pag HP.out)) ?_
        simp only [Act.put, List.setIfInBounds_toArray, List.set_cons_zero, List.set_cons_succ]
        refine mf_of (i := 8) rfl (by kernel_rfl) (by rfl) fun Q' hQ => ?_
        obtain ⟨f, hf1, hv1⟩ := HS1.out.2
        have HF1 := Lib.hid hf1
        have HV1 := Lib.hid hv1
        refine wpList_put_mpi (w := W1.drew) (n := N - d.n + k) rfl _ _ _ rfl Try.underlying3 Try.underlying54 rfl (show MpI W1.drew _ _ bs _ f from HF1.out) (by have := HN.out; have := HM.out.num.1; have := HNX.out; unfold maxLen; omega) rfl rfl HSK.out ?_
        intro W2 hm2 hg2
        have HX := Lib.hid (show StlS w bs N d (keepB kn t) W2 (k + 1) from StlS.yes (w' := W1.drew) HS1.out.1.drew HV1.out HKK.out (by rw [HES.out, HEP.out]; exact hm2) hg2)
        refine hQ _ _ (fun h => by cases h) ?_
        clear hQ hm2 hg2 hf1 hv1 HF1 HV1 hS HS1 HA HC3
        clear Q'
        simp only [Act.put]
        refine mf_done (by kernel_rfl) ?_
        go_wp2_with fail
        go_roundw
        case rel => exact ⟨k + 1, by omega, by go_num, HX⟩
        case measure => simp [intOf]; omega
      · have hkf : (keepB kn t) k = false := by simpa using hkk
        rw [hkf]
        have HX := Lib.hid (HS1.out.no hkf)
        clear hkk hkf HA HS1 HC3
        go_wp2_with fail
        go_roundw
        case rel => exact ⟨k + 1, by omega, by go_num, HX⟩
        case measure => simp [intOf]; omega
    · obtain rfl : k = n := by omega
      have k1 : ¬ (k : Int) < (k : Int) := by omega
      obtain ⟨c3, c4, c5, f4⟩ := HB.out
      obtain ⟨f2, hf2, _⟩ := HM.out.last
      have HML := Lib.hid (show MpI (wr.setCell ⟨b, 4, none⟩ (.slice none 0 0)) 3 .i64 bl N f2 from hf2.keep ((heap_setCell_other _ _ _ _ (Ne.symm HM.out.ne.1.2.1)).trans (HS.out.1.block bl hf2.lt (Ne.symm HM.out.ne.1.2.2.2.1))))
      clear hf2 c3 HB hlt
      go_wp2_with (first
        | (refine wpList_store1 rfl 56 _ _ rfl rfl rfl (by kernel_rfl) rfl c4 f4 ?_
           have d5 : (wr.setCell ⟨b, 4, none⟩ (.slice none 0 0)).cell? ⟨b, 5, none⟩ = some (.map (some bl)) := (World.cell?_setCell_other _ _ _ _ (by simp)).trans c5
           revert HML d5
           generalize hW : World.setCell _ _ _ = W2
           intro HML d5)
        | (refine wpList_clear_mpi rfl _ _ rfl Try.underlying55 rfl HML.out ?_
           intro W3 hm3 hg3
           have HX := Lib.hid (show DkTo w b T N (d.settled (keepB kn t)) W3 from HM.out.settled (w1 := wr) (by rw [HNX.out]; exact HS.out) hm3 (by rw [hW]; exact hg3))
           clear hm3 hg3))
      go_end0
      exact ⟨rfl, HX.out⟩
end Go.Proofs.Ytbbeekpndhfpjaa.Dk
end

section
/- Contracts of the program's disk: Sync, Crash; and of none. -/
set_option maxRecDepth 100000
set_option linter.unusedVariables false
set_option linter.unusedSimpArgs false
namespace Go.Proofs.Ytbbeekpndhfpjaa.Dk
open Go.RowKit Go.Proofs.Ytbbeekpndhfpjaa.Row

theorem sync_no (w : World) (b : Nat) (T : Nat → Prop) (N : Nat) (d : Dsk) (h : DkIs w b T N d) (hr : d.syncE ≠ 0) :
    Calls Try.prog 23 #[.pointer (some ⟨b, 0, none⟩)] w fun e w' => e = .returned (.int .i64 d.syncE) ∧ DkTo w b T N d w' := by
  have HS := Lib.hid (spend_of w b T N d h)
  have HD := Lib.hid h.to
  obtain ⟨bs, bl, br, a, c, hM⟩ := h
  have hp := power_of w b d.down hM.cells.2.1
  by_cases h1 : d.down = true
  · have e : d.syncE = 7 := by unfold Dsk.syncE; rw [if_pos h1]
    rw [e]
    rw [if_pos h1] at hp
    clear HS hM hr h1 e
    go_enter Try.func23, Try.ntmps23
    go_wp2_with fail
    refine hp.mono ?_
    rintro e w1 ⟨rfl, rfl⟩
    go_wp2_with fail
    go_ret
    exact ⟨rfl, HD.out⟩
  · have hu : d.fuse = 0 := by
      unfold Dsk.syncE at hr
      rw [if_neg h1] at hr
      by_cases c : d.fuse = 0
      · exact c
      · rw [if_neg c] at hr; exact absurd rfl hr
    have e : d.syncE = 6 := by unfold Dsk.syncE; rw [if_neg h1, if_pos hu]
    have es : d.spent = d := by unfold Dsk.spent; rw [hu]; cases d; simp_all
    rw [if_pos hu, es] at HS
    rw [if_neg h1] at hp
    rw [e]
    clear HD hM hr h1 e hu es
    go_enter Try.func23, Try.ntmps23
    go_wp2_with fail
    refine hp.mono ?_
    rintro e w1 ⟨rfl, rfl⟩
    go_wp2_with fail
    refine HS.out.mono ?_
    rintro e w1 ⟨rfl, hd⟩
    have HX := Lib.hid hd
    clear hd HS hp
    go_wp2_with fail
    go_ret
    exact ⟨rfl, HX.out⟩

theorem sync_yes (w : World) (b : Nat) (T : Nat → Prop) (N : Nat) (d : Dsk) (h : DkIs w b T N d) (hN : N ≤ 1000000) (hr : d.syncE = 0) :
    Calls Try.prog 23 #[.pointer (some ⟨b, 0, none⟩)] w fun e w' => e = .returned (.int .i64 0) ∧ DkTo w b T N (d.spent.settled allB) w' := by
  have HS := Lib.hid (spend_of w b T N d h)
  obtain ⟨bs, bl, br, a, c, hM⟩ := h
  have hp := power_of w b d.down hM.cells.2.1
  have h1 : ¬ d.down = true := fun h => by unfold Dsk.syncE at hr; rw [if_pos h] at hr; omega
  have hu : d.fuse ≠ 0 := fun h => by unfold Dsk.syncE at hr; rw [if_neg h1, if_pos h] at hr; omega
  rw [if_neg hu] at HS
  rw [if_neg h1] at hp
  have HN := Lib.hid hN
  clear hM hr h1 hu hN
  generalize d.spent = d1 at HS ⊢
  go_enter Try.func23, Try.ntmps23
  go_wp2_with fail
  refine hp.mono ?_
  rintro e w0 ⟨rfl, rfl⟩
  go_wp2_with fail
  refine HS.out.mono ?_
  rintro e w1 ⟨rfl, T', hd, hf, hT⟩
  have HC := Lib.hid (settle_all w1 b T' N d1 hd HN.out)
  have HF := Lib.hid hf
  have HT := Lib.hid hT
  clear hd hf hT HS hp
  go_wp2_with fail
  refine HC.out.mono ?_
  rintro e w2 ⟨rfl, hd⟩
  have HY := Lib.hid (hd.from HF.out HT.out)
  clear hd HC HF HT
  go_wp2_with fail
  go_ret
  exact ⟨rfl, HY.out⟩

theorem DkM.fallen {w : World} {b : Nat} {T : Nat → Prop} {N : Nat} {d : Dsk} {bs bl br : Nat} {a : Option Addr} {c : Nat} (h : DkM w b T N d bs bl br a c) : DkM (w.setCell ⟨b, 1, none⟩ (.bool true)) b T N { d with down := true } bs bl br a c :=
  h.setC (d' := { d with down := true }) 1 (.bool true) rfl ⟨rfl, rfl, rfl, rfl, rfl⟩ h.num.2.2

theorem crash_of (w : World) (b : Nat) (T : Nat → Prop) (N : Nat) (d : Dsk) (h : DkIs w b T N d) (hN : N ≤ 1000000) (ka : Option Addr) (kn kc : Nat) (t : Nat → Bool) (hB : SlB w ka kn kc t) (hkT : 0 < kn → ∀ b o, ka = some ⟨b, o, none⟩ → ¬ T b) :
    Calls Try.prog 13 #[.pointer (some ⟨b, 0, none⟩), .slice ka kn kc] w fun e w' => e = .returned (.tuple #[]) ∧ DkTo w b T N (d.crashed (keepB kn t)) w' := by
  have hmf : ∀ (fn : Fn) (first cap : Array Value) (w : World), (Instr.makeFunc fn first cap).run Try.prog w = .ok (.func fn first cap) w := fun _ _ _ _ => rfl
  have hb := (Below.refl w.heap.size w).alloc (Nat.le_refl _) (.cells #[.slice ka kn kc] 34)
  have hat := At.new w #[.slice ka kn kc] 34
  have HC := Lib.hid (settle_kept (w.alloc (.cells #[.slice ka kn kc] 34)) b T N d (h.below hb) hN w.heap.size ka kn kc t ((hat.cell 0).trans rfl) (hB.below hb) (fun hx => absurd (h.lt _ hx) (Nat.lt_irrefl _)) hkT)
  have HF := Lib.hid (show Fr T w (w.alloc (.cells #[.slice ka kn kc] 34)) from .of_below hb)
  clear h hb hat hN hB hkT
  have HE := Lib.hid (show d.crashed (keepB kn t) = { d.settled (keepB kn t) with down := true } from rfl)
  generalize d.crashed (keepB kn t) = dc at HE ⊢
  generalize d.settled (keepB kn t) = ds at HE HC
  go_enter Try.func13, Try.ntmps13
  go_wp2_with fail
  refine HC.out.mono ?_
  rintro e w1 ⟨rfl, T', hd, hf, hT⟩
  obtain ⟨bs, bl, br, a, c, hM⟩ := hd
  obtain ⟨_, c1, _, _, _, _, _, f0⟩ := hM.cells
  have f1 := f0 1
  have HX := Lib.hid (show DkTo w b T N dc (w1.setCell ⟨b, 1, none⟩ (.bool true)) from by
    rw [HE.out]
    exact DkTo.from (w1 := w1) ⟨T', ⟨bs, bl, br, a, c, hM.fallen⟩, (Fr.refl _ _).setCell (.inl hM.own.1) _, fun _ h => .inl h⟩ (HF.out.same hf) fun k hk => (hT k hk).imp id fun h => Nat.le_trans HF.out.size h)
  clear hM hf hT HC HF f0
  go_wp2_with fail
  go_end0
  exact ⟨rfl, HX.out⟩

/-! Of none. -/
theorem nil_size (w : World) : Calls Try.prog 26 #[.pointer none] w fun e w' => e = .returned (.int .i64 0) ∧ Below w.heap.size w w' := by
  go_enter Try.func26, Try.ntmps26
  go_wp2
  go_ret
  exact ⟨rfl, by first | exact Below.refl _ _ | exact (Below.refl _ _).alloc (Nat.le_refl _) _⟩
theorem nil_up (w : World) : Calls Try.prog 14 #[.pointer none] w fun e w' => e = .returned (.tuple #[]) ∧ Below w.heap.size w w' := by
  go_enter Try.func14, Try.ntmps14
  go_wp2
  go_end0
  exact ⟨rfl, by first | exact Below.refl _ _ | exact (Below.refl _ _).alloc (Nat.le_refl _) _⟩
theorem nil_fuse (w : World) (i : Int) : Calls Try.prog 12 #[.pointer none, .int .i64 i] w fun e w' => e = .returned (.tuple #[]) ∧ Below w.heap.size w w' := by
  go_enter Try.func12, Try.ntmps12
  go_wp2
  go_end0
  exact ⟨rfl, by first | exact Below.refl _ _ | exact (Below.refl _ _).alloc (Nat.le_refl _) _⟩
theorem nil_crash (w : World) (ka : Option Addr) (kn kc : Nat) : Calls Try.prog 13 #[.pointer none, .slice ka kn kc] w fun e w' => e = .returned (.tuple #[]) ∧ Below w.heap.size w w' := by
  go_enter Try.func13, Try.ntmps13
  go_wp2
  refine bodyPost_ret (results_none rfl _ _ _) rfl ?_
  exact ⟨rfl, by first | exact Below.refl _ _ | exact (Below.refl _ _).alloc (Nat.le_refl _) _⟩
theorem nil_power (w : World) : Calls Try.prog 35 #[.pointer none] w fun e w' => e = .returned (.int .i64 1) ∧ w' = w := by
  go_enter Try.func35, Try.ntmps35
  go_wp2
  go_ret
  exact ⟨rfl, rfl⟩
theorem nil_reach (w : World) (i : Int) : Calls Try.prog 38 #[.pointer none, .int .i64 i] w fun e w' => e = .returned (.int .i64 1) ∧ w' = w := by
  go_enter Try.func38, Try.ntmps38
  go_wp2_with fail
  refine (nil_power w).mono ?_
  rintro e w1 ⟨rfl, rfl⟩
  go_wp2_with fail
  go_ret
  exact ⟨rfl, rfl⟩
theorem nil_sync (w : World) : Calls Try.prog 23 #[.pointer none] w fun e w' => e = .returned (.int .i64 1) ∧ Below w.heap.size w w' := by
  go_enter Try.func23, Try.ntmps23
  go_wp2_with fail
  refine (nil_power w).mono ?_
  rintro e w1 ⟨rfl, rfl⟩
  go_wp2_with fail
  go_ret
  exact ⟨rfl, Below.refl _ _⟩
theorem nil_write (w : World) (i : Int) (P : Array Value) : Calls Try.prog 49 #[.pointer none, .int .i64 i, .agg P] w fun e w' => e = .returned (.int .i64 1) ∧ Below w.heap.size w w' := by
  go_enter Try.func49, Try.ntmps49
  go_wp2_with fail
  refine (nil_reach _ i).mono ?_
  rintro e w1 ⟨rfl, rfl⟩
  go_wp2_with fail
  go_ret
  exact ⟨rfl, (Below.refl _ _).alloc (Nat.le_refl _) _⟩
theorem nil_read (w : World) (i : Int) : Calls Try.prog 27 #[.pointer none, .int .i64 i] w fun e w' => e = .returned (.tuple #[.agg zP, .int .i64 1]) ∧ Below w.heap.size w w' := by
  have hz := zero_page
  have HX := Lib.hid (show Below w.heap.size w ((w.alloc (.cells zP 69)).setRow w.heap.size zP) from by rw [Row.setRow_self (At.new w zP 69)]; exact (Below.refl _ _).alloc (Nat.le_refl _) _)
  have HA := Lib.hid (At.new w zP 69)
  have HA2 := Lib.hid (HA.out.setRow (C := zP))
  go_enter Try.func27, Try.ntmps27
  go_wp2_with fail
  refine (nil_reach _ i).mono ?_
  rintro e w1 ⟨rfl, rfl⟩
  go_wp2_with (first
    | refine wpList_build_parts (by rfl) 69 [] rfl _ rfl built_z ?_
    | refine wpList_store_row rfl 69 _ _ rfl w.heap.size zP rfl rfl _ _ HA.out (info_pag pag_z) rfl pag_z.one ?_)
  exact bodyPost_ret (v := .tuple #[.agg zP, .int .i64 1]) (results_any_int rfl _ _ w.heap.size zP _ rfl rfl HA2.out Try.underlying69 rfl (info_pag pag_z)) rfl ⟨rfl, HX.out⟩
end Go.Proofs.Ytbbeekpndhfpjaa.Dk
end
