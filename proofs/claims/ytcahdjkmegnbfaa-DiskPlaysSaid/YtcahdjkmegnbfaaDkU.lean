/- Contracts of the document's New and Crash. -/
import Derived.Test.YtcahdjkmegnbfaaDkTa
set_option maxRecDepth 100000
set_option linter.unusedVariables false
set_option linter.unusedSimpArgs false
namespace Go.Proofs.Ytcahdjkmegnbfaa.Dk
open Go.RowKit Go.Proofs.Ytcahdjkmegnbfaa.Row

set_option maxHeartbeats 2000000 in
theorem refNew_as (n : Nat) (hn : n ≤ 1024) (w : World) :
    Calls Try.prog 12 #[.int .i64 n] w (RetK w (fun _ => False) (fun x => x) n 0 (fun _ => zP) (fun _ => zP) (fun _ => 0) (fun _ => zP) false (-1)) := by
  have hz := zero_ref
  have HR := Lib.hid (At.new w zR 33)
  have HB := Lib.hid ((Below.refl w.heap.size w).alloc (Nat.le_refl _) (.cells zR 33))
  have HZ := Lib.hid (show w.heap.size + 1 ≤ (w.alloc (.cells zR 33)).heap.size by rw [World.size_alloc]; omega)
  go_enter Try.func12, Try.ntmps12
  go_wp2_with fail
  revert HZ; revert HB; revert HR
  generalize World.alloc _ _ = W0
  intro HR HB HZ
  refine mf_start (fun _ => True) (fun j => j == 5) trivial fun hS => ?_
  refine mf_yield (i := 0) (d := 3) (.int .i64 n) rfl rfl (by kernel_rfl) (by kernel_rfl) (by kernel_rfl) (by kernel_rfl) trivial (y_run (by rfl) fun _ => by rfl) ?_
  simp only [Act.put, List.setIfInBounds_toArray, List.set_cons_zero, List.set_cons_succ]
  refine mf_yield (i := 2) (d := 5) (.int .i64 n) rfl rfl (by kernel_rfl) (by kernel_rfl) (by kernel_rfl) (by kernel_rfl) trivial (y_run (by rfl) fun _ => by rfl) ?_
  simp only [Act.put, List.setIfInBounds_toArray, List.set_cons_zero, List.set_cons_succ]
  refine mf_ready [1, 3] (by kernel_rfl) (by simp) (af_of (i := 1) rfl (by rfl) (fun Q' hQ => ?_) <| af_of (i := 3) rfl (by rfl) (fun Q' hQ => ?_) <| AllReadyF.nil)
  · refine wpList_make_els (w := W0.drew) (B := W0.heap.size) elt_p pag_z.one rfl _ _ rfl n rfl rfl (by omega) (Nat.le_refl _) ?_
    intro W1 h1 hb1
    refine hQ _ _ (fun _ => trivial) ?_
    have E1 := Lib.hid h1
    have B1 := Lib.hid (show Below W0.heap.size W0 W1 from Below.trans ((Below.refl _ _).drew) hb1)
    clear hQ h1 hb1
    clear Q'
    simp only [Act.put, List.setIfInBounds_toArray, List.set_cons_zero, List.set_cons_succ]
    refine mf_of (i := 3) rfl (by kernel_rfl) (by rfl) fun Q' hQ => ?_
    refine wpList_make_els (w := W1) (B := W0.heap.size) elt_p pag_z.one rfl _ _ rfl n rfl rfl (by omega) B1.out.size ?_
    intro W2 h2 hb2
    refine hQ _ _ (fun _ => trivial) ?_
    have E2 := Lib.hid h2
    have E1b := Lib.hid (E1.out.below hb2)
    have B2 := Lib.hid (below_trans B1.out hb2 B1.out.size)
    have HR2 := Lib.hid (HR.out.below B2.out HR.out.lt)
    clear hQ h2 hb2
    clear Q'
    simp only [Act.put, List.setIfInBounds_toArray, List.set_cons_zero, List.set_cons_succ]
    refine mf_one (i := 4) (d := 7) (.agg ((refV (.slice (some ⟨W0.drew.heap.size, 0, none⟩) n n) (.slice (some ⟨W1.heap.size, 0, none⟩) n n) (.slice none 0 0) (.slice none 0 0) false (-1)))) rfl rfl (by kernel_rfl) trivial (y_build_parts (L := [(0, .tmp 4), (1, .tmp 6), (5, _)]) (by rfl) rfl _ rfl (built_new _ _ rfl rfl)) ?_
    simp only [Act.put, List.setIfInBounds_toArray, List.set_cons_zero, List.set_cons_succ]
    refine mf_of (i := 5) rfl (by kernel_rfl) (by rfl) fun Q' hQ => ?_
    refine wpList_store_row rfl 33 _ _ rfl w.heap.size (refV (.slice (some ⟨W0.drew.heap.size, 0, none⟩) n n) (.slice (some ⟨W1.heap.size, 0, none⟩) n n) (.slice none 0 0) (.slice none 0 0) false (-1)) rfl rfl _ _ HR2.out (info_ref rfl) rfl (refV_one _ _ _ _ _ _ rfl rfl rfl rfl) ?_
    have HR3 := Lib.hid (HR2.out.setRow (C := (refV (.slice (some ⟨W0.drew.heap.size, 0, none⟩) n n) (.slice (some ⟨W1.heap.size, 0, none⟩) n n) (.slice none 0 0) (.slice none 0 0) false (-1))))
    have ne : ∀ k, Nw w 1 (fun _ => False) k → k ≠ w.heap.size := fun k hk => by rcases hk with hk | hk; exact hk.elim; omega
    have HX := Lib.hid (show RetK w (fun _ => False) (fun x => x) n 0 (fun _ => zP) (fun _ => zP) (fun _ => 0) (fun _ => zP) false (-1) (.returned (.agg (refV (.slice (some ⟨W0.drew.heap.size, 0, none⟩) n n) (.slice (some ⟨W1.heap.size, 0, none⟩) n n) (.slice none 0 0) (.slice none 0 0) false (-1)))) (W2.setRow w.heap.size (refV (.slice (some ⟨W0.drew.heap.size, 0, none⟩) n n) (.slice (some ⟨W1.heap.size, 0, none⟩) n n) (.slice none 0 0) (.slice none 0 0) false (-1))) from
      ⟨_, rfl, below_setRow' (below_trans HB.out B2.out HB.out.size) (Nat.le_refl _) _, _, _, _, _, _, _, _, _, rfl, ((Els.slG E1b.out (G := Nw w 1 (fun _ => False)) fun k hk _ => .inr (by have := HZ.out; omega)).setRow _ ne).sub (fun k hk hl => Nw.out k hk hl), ((Els.slG E2.out (G := Nw w 1 (fun _ => False)) fun k hk _ => .inr (by have := HZ.out; omega)).setRow _ ne).sub (fun k hk hl => Nw.out k hk hl), SlG.nil _ _ _ _, SlG.nil _ _ _ _⟩)
    refine hQ _ _ (fun h => by cases h) ?_
    clear hQ ne
    clear Q'
    simp only [Act.put]
    refine mf_done (by kernel_rfl) ?_
    go_wp2_with fail
    exact bodyPost_ret (v := .agg (refV (.slice (some ⟨W0.drew.heap.size, 0, none⟩) n n) (.slice (some ⟨W1.heap.size, 0, none⟩) n n) (.slice none 0 0) (.slice none 0 0) false (-1))) (results_one rfl _ _ w.heap.size _ _ rfl HR3.out Try.underlying33 rfl (info_ref rfl)) rfl HX.out
  · refine wpList_make_els (w := W0.drew) (B := W0.heap.size) elt_p pag_z.one rfl _ _ rfl n rfl rfl (by omega) (Nat.le_refl _) ?_
    intro W1 h1 hb1
    refine hQ _ _ (fun _ => trivial) ?_
    have E1 := Lib.hid h1
    have B1 := Lib.hid (show Below W0.heap.size W0 W1 from Below.trans ((Below.refl _ _).drew) hb1)
    clear hQ h1 hb1
    clear Q'
    simp only [Act.put, List.setIfInBounds_toArray, List.set_cons_zero, List.set_cons_succ]
    refine mf_of (i := 1) rfl (by kernel_rfl) (by rfl) fun Q' hQ => ?_
    refine wpList_make_els (w := W1) (B := W0.heap.size) elt_p pag_z.one rfl _ _ rfl n rfl rfl (by omega) B1.out.size ?_
    intro W2 h2 hb2
    refine hQ _ _ (fun _ => trivial) ?_
    have E2 := Lib.hid h2
    have E1b := Lib.hid (E1.out.below hb2)
    have B2 := Lib.hid (below_trans B1.out hb2 B1.out.size)
    have HR2 := Lib.hid (HR.out.below B2.out HR.out.lt)
    clear hQ h2 hb2
    clear Q'
    simp only [Act.put, List.setIfInBounds_toArray, List.set_cons_zero, List.set_cons_succ]
    refine mf_one (i := 4) (d := 7) (.agg ((refV (.slice (some ⟨W1.heap.size, 0, none⟩) n n) (.slice (some ⟨W0.drew.heap.size, 0, none⟩) n n) (.slice none 0 0) (.slice none 0 0) false (-1)))) rfl rfl (by kernel_rfl) trivial (y_build_parts (L := [(0, .tmp 4), (1, .tmp 6), (5, _)]) (by rfl) rfl _ rfl (built_new _ _ rfl rfl)) ?_
    simp only [Act.put, List.setIfInBounds_toArray, List.set_cons_zero, List.set_cons_succ]
    refine mf_of (i := 5) rfl (by kernel_rfl) (by rfl) fun Q' hQ => ?_
    refine wpList_store_row rfl 33 _ _ rfl w.heap.size (refV (.slice (some ⟨W1.heap.size, 0, none⟩) n n) (.slice (some ⟨W0.drew.heap.size, 0, none⟩) n n) (.slice none 0 0) (.slice none 0 0) false (-1)) rfl rfl _ _ HR2.out (info_ref rfl) rfl (refV_one _ _ _ _ _ _ rfl rfl rfl rfl) ?_
    have HR3 := Lib.hid (HR2.out.setRow (C := (refV (.slice (some ⟨W1.heap.size, 0, none⟩) n n) (.slice (some ⟨W0.drew.heap.size, 0, none⟩) n n) (.slice none 0 0) (.slice none 0 0) false (-1))))
    have ne : ∀ k, Nw w 1 (fun _ => False) k → k ≠ w.heap.size := fun k hk => by rcases hk with hk | hk; exact hk.elim; omega
    have HX := Lib.hid (show RetK w (fun _ => False) (fun x => x) n 0 (fun _ => zP) (fun _ => zP) (fun _ => 0) (fun _ => zP) false (-1) (.returned (.agg (refV (.slice (some ⟨W1.heap.size, 0, none⟩) n n) (.slice (some ⟨W0.drew.heap.size, 0, none⟩) n n) (.slice none 0 0) (.slice none 0 0) false (-1)))) (W2.setRow w.heap.size (refV (.slice (some ⟨W1.heap.size, 0, none⟩) n n) (.slice (some ⟨W0.drew.heap.size, 0, none⟩) n n) (.slice none 0 0) (.slice none 0 0) false (-1))) from
      ⟨_, rfl, below_setRow' (below_trans HB.out B2.out HB.out.size) (Nat.le_refl _) _, _, _, _, _, _, _, _, _, rfl, ((Els.slG E2.out (G := Nw w 1 (fun _ => False)) fun k hk _ => .inr (by have := HZ.out; omega)).setRow _ ne).sub (fun k hk hl => Nw.out k hk hl), ((Els.slG E1b.out (G := Nw w 1 (fun _ => False)) fun k hk _ => .inr (by have := HZ.out; omega)).setRow _ ne).sub (fun k hk hl => Nw.out k hk hl), SlG.nil _ _ _ _, SlG.nil _ _ _ _⟩)
    refine hQ _ _ (fun h => by cases h) ?_
    clear hQ ne
    clear Q'
    simp only [Act.put]
    refine mf_done (by kernel_rfl) ?_
    go_wp2_with fail
    exact bodyPost_ret (v := .agg (refV (.slice (some ⟨W1.heap.size, 0, none⟩) n n) (.slice (some ⟨W0.drew.heap.size, 0, none⟩) n n) (.slice none 0 0) (.slice none 0 0) false (-1))) (results_one rfl _ _ w.heap.size _ _ rfl HR3.out Try.underlying33 rfl (info_ref rfl)) rfl HX.out

theorem built_crash (x y : Value) (hx : x.oneCell' = true) (hy : y.oneCell' = true) (fu : Int) : Try.prog.built 33 [(0, x), (1, y), (4, .bool true), (5, .int .i64 fu)] = some (refV x y (.slice none 0 0) (.slice none 0 0) true fu) := by
  cases x <;> first | (cases hx; done) | (cases y <;> first | (cases hy; done) | kernel_rfl)
/-- What stands while writes are kept: the disk's value at g; what is sure, in a slice of its own. -/
def CrS (w : World) (g B : Nat) (G : Nat → Prop) (V : Array Value) (kept : Nat → Bool) (ge size c' : Nat) (sure : Int → Array Value) (a2 : Option Addr) (n c2 : Nat) (sec : Nat → Int) (a3 : Option Addr) (c3 : Nat) (pg : Nat → Array Value) (W : World) (k : Nat) : Prop :=
  At W g V 33 ∧ At W (g + 1) zR 33 ∧ Below g w W ∧ SlG W G 1 a2 n c2 (fun k => #[.int .i64 (sec k)]) ∧ SlG W G 64 a3 n c3 pg ∧ Els W B 35 64 (some ⟨ge, 0, none⟩) size c' (fun j => lay kept sure sec pg k (j : Nat))

set_option maxHeartbeats 8000000 in
theorem refCrash_as (w : World) (G : Nat → Prop) (hG : ∀ k, G k → k < w.heap.size) (size n : Nat) (sure : Int → Array Value) (seen : Nat → Array Value) (sec : Nat → Int) (pg : Nat → Array Value) (dn : Bool) (fu : Int) (v : Array Value) (h : Rk w G size n (fun k => sure (k : Nat)) seen sec pg dn fu v) (hs0 : 1 ≤ size) (hs : size ≤ 1024) (hn : n ≤ 1000)
    (hsec : ∀ k, k < n → ∃ j : Nat, j < size ∧ sec k = j) (hpg : ∀ k, k < n → Pag (pg k)) (ka : Option Addr) (kn kc : Nat) (t : Nat → Bool) (hB : SlB w ka kn kc t) :
    Calls Try.prog 16 #[.agg v, .slice ka kn kc] w (RetK w G (fun x => x) size 0 (fun j => lay (keepB kn t) sure sec pg n (j : Nat)) (fun j => lay (keepB kn t) sure sec pg n (j : Nat)) sec pg true fu) := by
  have hz := zero_ref
  obtain ⟨a0, c0, a1, c1, a2, c2, a3, c3, rfl, h0, h1, h2, h3⟩ := h
  obtain ⟨hA1, hA2, hb⟩ := two_new w (refV (.slice a0 size c0) (.slice a1 size c1) (.slice a2 n c2) (.slice a3 n c3) dn fu) zR 33
  obtain ⟨W1, hW⟩ : ∃ W1, (w.alloc (.cells (refV (.slice a0 size c0) (.slice a1 size c1) (.slice a2 n c2) (.slice a3 n c3) dn fu) 33)).alloc (.cells zR 33) = W1 := ⟨_, rfl⟩
  obtain ⟨g, hg⟩ : ∃ g, w.heap.size = g := ⟨_, rfl⟩
  have HGE := Lib.hid hg
  rw [hW] at hA1 hA2 hb
  have HA1 := Lib.hid hA1
  have HA2 := Lib.hid hA2
  have HB := Lib.hid hb
  have S0 := Lib.hid (h0.below hb)
  have S2 := Lib.hid (h2.below hb)
  have S3 := Lib.hid (h3.below hb)
  have HG := Lib.hid hG
  have HSEC := Lib.hid hsec
  have HPG := Lib.hid hpg
  have HK := Lib.hid hB
  clear hA1 hA2 hb h0 h1 h2 h3 hG hsec hpg hB
  rw [hg] at HA1 HA2 HB
  have d0 : (W1.alloc (.cells #[] 35)).cell? ⟨g, 0, none⟩ = some (.slice a0 size c0) := ((HA1.out.alloc (.cells #[] 35)).cell 0).trans rfl
  go_enter Try.func16, Try.ntmps16
  go_wp2_with (first
    | (refine wpList_copy_sl (w := W1.alloc (.cells #[] 35)) (B := W1.heap.size) elt_p rfl _ _ rfl rfl (At.new W1 #[] 35) (Nat.le_refl _) rfl (S0.out.below ((Below.refl _ _).alloc (Nat.le_refl _) (.cells #[] 35))) (by omega) ?_
       intro a' c' W3 h4 hb4 _
       have hb3 : Below W1.heap.size W1 W3 := Below.trans ((Below.refl W1.heap.size W1).alloc (Nat.le_refl _) (.cells #[] 35)) hb4
       obtain ⟨ge, ha', hge, _⟩ := h4.addr (by omega)
       subst ha'
       have HS := Lib.hid (show CrS w g W1.heap.size G (refV (.slice a0 size c0) (.slice a1 size c1) (.slice a2 n c2) (.slice a3 n c3) dn fu) (keepB kn t) ge size c' sure a2 n c2 sec a3 c3 pg W3 0 from ⟨HA1.out.below hb3 HA1.out.lt, HA2.out.below hb3 HA2.out.lt, below_trans HB.out hb3 (Nat.le_of_lt HA1.out.lt), S2.out.below hb3, S3.out.below hb3, h4⟩)
       have hgB : g + 1 < W1.heap.size := HA2.out.lt
       clear h4 hb4 hb3 HA1 HA2 HB S0 S2 S3 d0 hW hg))
  go_loopw [6] (fun i W => ∃ k : Nat, k ≤ n ∧ i = .int .i64 k ∧ Hid (CrS w g W1.heap.size G (refV (.slice a0 size c0) (.slice a1 size c1) (.slice a2 n c2) (.slice a3 n c3) dn fu) (keepB kn t) ge size c' sure a2 n c2 sec a3 c3 pg W k)) (fun i _ => n - (intOf i).toNat)
  case atStart => exact ⟨0, Nat.zero_le _, rfl, HS⟩
  case round =>
    obtain ⟨k, hkn, rfl, HL⟩ := hrel
    clear HS
    have e2 : wr.cell? ⟨g, 2, none⟩ = some (.slice a2 n c2) := (HL.out.1.cell 2).trans rfl
    by_cases hk : k < n
    · have k1 : (k : Int) < (n : Int) := by omega
      by_cases hkk : keepB kn t k = true
      · have hq2 : k < kn := by
          unfold keepB at hkk
          by_cases c : k < kn
          · exact c
          · rw [decide_eq_false c] at hkk; cases hkk
        have ht : t k = true := by unfold keepB at hkk; rw [decide_eq_true hq2] at hkk; simpa using hkk
        have j2 : (k : Int) < (kn : Int) := by omega
        have i0 : (0 : Int) ≤ (k : Int) := by omega
        obtain ⟨kb, ko, hkb, hkc⟩ := HK.out.2.2 (by omega)
        subst hkb
        have hbw : Below w.heap.size w wr := by rw [HGE.out]; exact HL.out.2.2.1
        have c1' := (Below.cell hbw (block_lt_of_cell (hkc k hq2))).trans (hkc k hq2)
        rw [ht] at c1'
        have HKK := Lib.hid hkk
        clear hkc ht hq2 hkk hbw
        obtain ⟨j, hj, hsj⟩ := HSEC.out k hk
        have HP := Lib.hid (HPG.out k hk)
        obtain ⟨hA, hR, hBw, hS2, hS3, hE⟩ := HL.out
        obtain ⟨b2, o2, ha2, _, hr2⟩ := hS2.range hk
        obtain ⟨b3, o3, ha3, _, hr3⟩ := hS3.range hk
        subst ha2
        subst ha3
        have HSJ := Lib.hid hsj
        have X0 := Lib.hid (show wr.cell? ⟨g, 2, none⟩ = some (.slice (some ⟨b2, o2, none⟩) n c2) ∧ wr.cell? ⟨g, 3, none⟩ = some (.slice (some ⟨b3, o3, none⟩) n c3) ∧ wr.cell? ⟨b2, o2 + k * 1, none⟩ = some (.int .i64 (j : Nat)) ∧ wr.rangeAt b3 (o3 + k * 64) (pg k).toList from
          ⟨(hA.cell 2).trans rfl, (hA.cell 3).trans rfl, by have := hr2 0 (.int .i64 (sec k)) rfl; rw [hsj] at this; exact this, hr3⟩)
        have HA := Lib.hid hA
        have HR := Lib.hid hR
        have HBw := Lib.hid hBw
        have HS2 := Lib.hid hS2
        have HS3 := Lib.hid hS3
        have HE := Lib.hid hE
        clear hA hR hBw hS2 hS3 hE hr2 hr3 hsj HL
        go_wp2_with fail
        refine mf_start (fun w' => w'.cell? ⟨g, 2, none⟩ = some (.slice (some ⟨b2, o2, none⟩) n c2) ∧ w'.cell? ⟨g, 3, none⟩ = some (.slice (some ⟨b3, o3, none⟩) n c3) ∧ w'.cell? ⟨b2, o2 + k * 1, none⟩ = some (.int .i64 (j : Nat)) ∧ w'.rangeAt b3 (o3 + k * 64) (pg k).toList) (fun j => j == 12) X0.out fun hS => ?_
        refine mf_yield (i := 0) (d := 28) (.slice ((some ⟨ge, 0, none⟩)) size c') rfl rfl (by kernel_rfl) (by kernel_rfl) (by kernel_rfl) (by kernel_rfl) hS (y_run (by rfl) fun _ => by rfl) ?_
        simp only [Act.put, List.setIfInBounds_toArray, List.set_cons_zero, List.set_cons_succ]
        refine mf_yield (i := 1) (d := 29) (.pointer (some ⟨g, 2, none⟩)) rfl rfl (by kernel_rfl) (by kernel_rfl) (by kernel_rfl) (by kernel_rfl) hS (y_fieldO (by rfl) rfl rfl fld_r2 rfl) ?_
        simp only [Act.put, List.setIfInBounds_toArray, List.set_cons_zero, List.set_cons_succ]
        refine mf_yield (i := 2) (d := 30) (.slice ((some ⟨b2, o2, none⟩)) n c2) rfl rfl (by kernel_rfl) (by kernel_rfl) (by kernel_rfl) (by kernel_rfl) hS (y_cell1 (by rfl) rfl rfl Try.underlying31 rfl (fun _ h => h.1)) ?_
        simp only [Act.put, List.setIfInBounds_toArray, List.set_cons_zero, List.set_cons_succ]
        refine mf_yield (i := 3) (d := 31) (.int .i64 k) rfl rfl (by kernel_rfl) (by kernel_rfl) (by kernel_rfl) (by kernel_rfl) hS (y_run (by rfl) fun _ => by rfl) ?_
        simp only [Act.put, List.setIfInBounds_toArray, List.set_cons_zero, List.set_cons_succ]
        refine mf_yield (i := 4) (d := 32) (.pointer (some ⟨b2, (o2 + k * 1), none⟩)) rfl rfl (by kernel_rfl) (by kernel_rfl) (by kernel_rfl) (by kernel_rfl) hS (y_ex elt_i (by rfl) rfl rfl rfl rfl hk rfl) ?_
        simp only [Act.put, List.setIfInBounds_toArray, List.set_cons_zero, List.set_cons_succ]
        refine mf_yield (i := 5) (d := 33) (.int .i64 ((j : Nat))) rfl rfl (by kernel_rfl) (by kernel_rfl) (by kernel_rfl) (by kernel_rfl) hS (y_cell1 (by rfl) rfl rfl Try.underlying3 rfl (fun _ h => h.2.2.1)) ?_
        simp only [Act.put, List.setIfInBounds_toArray, List.set_cons_zero, List.set_cons_succ]
        refine mf_yield (i := 6) (d := 34) (.pointer (some ⟨g, 3, none⟩)) rfl rfl (by kernel_rfl) (by kernel_rfl) (by kernel_rfl) (by kernel_rfl) hS (y_fieldO (by rfl) rfl rfl fld_r3 rfl) ?_
        simp only [Act.put, List.setIfInBounds_toArray, List.set_cons_zero, List.set_cons_succ]
        refine mf_yield (i := 7) (d := 35) (.slice ((some ⟨b3, o3, none⟩)) n c3) rfl rfl (by kernel_rfl) (by kernel_rfl) (by kernel_rfl) (by kernel_rfl) hS (y_cell1 (by rfl) rfl rfl Try.underlying30 rfl (fun _ h => h.2.1)) ?_
        simp only [Act.put, List.setIfInBounds_toArray, List.set_cons_zero, List.set_cons_succ]
        refine mf_yield (i := 8) (d := 36) (.int .i64 k) rfl rfl (by kernel_rfl) (by kernel_rfl) (by kernel_rfl) (by kernel_rfl) hS (y_run (by rfl) fun _ => by rfl) ?_
        simp only [Act.put, List.setIfInBounds_toArray, List.set_cons_zero, List.set_cons_succ]
        refine mf_yield (i := 9) (d := 37) (.pointer (some ⟨b3, (o3 + k * 64), none⟩)) rfl rfl (by kernel_rfl) (by kernel_rfl) (by kernel_rfl) (by kernel_rfl) hS (y_ex elt_p (by rfl) rfl rfl rfl rfl hk rfl) ?_
        simp only [Act.put, List.setIfInBounds_toArray, List.set_cons_zero, List.set_cons_succ]
        refine mf_yield (i := 10) (d := 38) (.agg ((pg k))) rfl rfl (by kernel_rfl) (by kernel_rfl) (by kernel_rfl) (by kernel_rfl) hS (y_load_range (by rfl) rfl rfl (fun _ h => h.2.2.2) Try.underlying35 rfl (info_pag HP.out)) ?_
        simp only [Act.put, List.setIfInBounds_toArray, List.set_cons_zero, List.set_cons_succ]
        refine mf_one (i := 11) (d := 39) (.pointer (some ⟨ge, (j * 64), none⟩)) rfl rfl (by kernel_rfl) hS (y_ex elt_p (by rfl) rfl rfl rfl rfl hj (Nat.zero_add _)) ?_
        simp only [Act.put, List.setIfInBounds_toArray, List.set_cons_zero, List.set_cons_succ]
        refine mf_of (i := 12) rfl (by kernel_rfl) (by rfl) fun Q' hQ => ?_
        obtain ⟨C, hC, hE5⟩ := Els.stored (w := wr.drew) HE.out hj (P := pg k) ⟨HP.out.size, HP.out.one⟩
        refine wpList_store_mid (w := wr.drew) rfl 35 _ _ rfl ge (j * 64) (pg k) rfl rfl (by rw [HP.out.size]; exact Els.there (w := wr.drew) HE.out hj) (info_pag HP.out) HP.out.one ?_
        rw [hC]
        have hge2 : W1.heap.size ≤ ge := (HE.out.block ge rfl).1
        have HX := Lib.hid (show CrS w g W1.heap.size G (refV (.slice a0 size c0) (.slice a1 size c1) (.slice (some ⟨b2, o2, none⟩) n c2) (.slice (some ⟨b3, o3, none⟩) n c3) dn fu) (keepB kn t) ge size c' sure (some ⟨b2, o2, none⟩) n c2 sec (some ⟨b3, o3, none⟩) c3 pg (wr.drew.setRow ge C) (k + 1) from by
          have ne : ∀ q, G q → q ≠ ge := fun q hq => by have := HG.out q hq; have := HGE.out; omega
          refine ⟨At.setRow_other (w := wr.drew) HA.out (by omega), At.setRow_other (w := wr.drew) HR.out (by omega), below_setRow' HBw.out.drew (by omega) C, SlG.setRow (w := wr.drew) HS2.out C ne, SlG.setRow (w := wr.drew) HS3.out C ne, hE5.ext fun i hi => ?_⟩
          rw [lay, HKK.out, HSJ.out]
          by_cases e : i = j
          · rw [if_pos e, if_pos ⟨rfl, by omega⟩]
          · rw [if_neg e, if_neg (fun hc => e (by omega))])
        refine hQ _ _ (fun h => by cases h) ?_
        clear hQ hC hE5 HA HR HBw HS2 HS3 HE hS X0
        clear Q'
        simp only [Act.put]
        refine mf_done (by kernel_rfl) ?_
        go_wp2_with fail
        go_roundw
        case rel => exact ⟨k + 1, by omega, by go_num, HX⟩
        case measure => simp [intOf]; omega
      · have HX := Lib.hid (show CrS w g W1.heap.size G (refV (.slice a0 size c0) (.slice a1 size c1) (.slice a2 n c2) (.slice a3 n c3) dn fu) (keepB kn t) ge size c' sure a2 n c2 sec a3 c3 pg wr (k + 1) from by
          obtain ⟨q1, q2, q3, q4, q5, q6⟩ := HL.out
          exact ⟨q1, q2, q3, q4, q5, by rw [lay_next _ _ _ _ _ (by simpa using hkk)]; exact q6⟩)
        by_cases hq2 : k < kn
        · have ht : t k = false := by unfold keepB at hkk; rw [decide_eq_true hq2] at hkk; simpa using hkk
          have j2 : (k : Int) < (kn : Int) := by omega
          have i0 : (0 : Int) ≤ (k : Int) := by omega
          obtain ⟨kb, ko, hkb, hkc⟩ := HK.out.2.2 (by omega)
          subst hkb
          have hbw : Below w.heap.size w wr := by rw [HGE.out]; exact HL.out.2.2.1
          have c1' := (Below.cell hbw (block_lt_of_cell (hkc k hq2))).trans (hkc k hq2)
          rw [ht] at c1'
          clear hkc ht hq2 hkk hbw HL
          go_wp2_with fail
          go_roundw
          case rel => exact ⟨k + 1, by omega, by go_num, HX⟩
          case measure => simp [intOf]; omega
        · have j2 : ¬ (k : Int) < (kn : Int) := by omega
          clear hq2 hkk HL
          go_wp2_with fail
          go_roundw
          case rel => exact ⟨k + 1, by omega, by go_num, HX⟩
          case measure => simp [intOf]; omega
    · obtain rfl : k = n := by omega
      have k1 : ¬ (k : Int) < (k : Int) := by omega
      clear hk
      go_wp2_with fail
      have hc5 : wr.cell? ⟨g, 5, none⟩ = some (.int .i64 fu) := (HL.out.1.cell 5).trans rfl
      have E0 := Lib.hid HL.out.2.2.2.2.2
      have HR := Lib.hid HL.out.2.1
      have HBw := Lib.hid HL.out.2.2.1
      have hgl : g + 1 < wr.heap.size := HL.out.2.1.lt
      have hge2 : W1.heap.size ≤ ge := (E0.out.block ge rfl).1
      clear HL e2 HSEC HPG HK
      refine mf_start (fun w' => w'.cell? ⟨g, 5, none⟩ = some (.int .i64 fu)) (fun j => j == 7) hc5 fun hS => ?_
      refine mf_yield (i := 0) (d := 40) (.slice ((some ⟨ge, 0, none⟩)) size c') rfl rfl (by kernel_rfl) (by kernel_rfl) (by kernel_rfl) (by kernel_rfl) hS (y_run (by rfl) fun _ => by rfl) ?_
      simp only [Act.put, List.setIfInBounds_toArray, List.set_cons_zero, List.set_cons_succ]
      refine mf_yield (i := 2) (d := 42) (.slice ((some ⟨ge, 0, none⟩)) size c') rfl rfl (by kernel_rfl) (by kernel_rfl) (by kernel_rfl) (by kernel_rfl) hS (y_run (by rfl) fun _ => by rfl) ?_
      simp only [Act.put, List.setIfInBounds_toArray, List.set_cons_zero, List.set_cons_succ]
      refine mf_yield (i := 4) (d := 44) (.pointer (some ⟨g, 5, none⟩)) rfl rfl (by kernel_rfl) (by kernel_rfl) (by kernel_rfl) (by kernel_rfl) hS (y_fieldO (by rfl) rfl rfl fld_r5 rfl) ?_
      simp only [Act.put, List.setIfInBounds_toArray, List.set_cons_zero, List.set_cons_succ]
      refine mf_yield (i := 5) (d := 45) (.int .i64 fu) rfl rfl (by kernel_rfl) (by kernel_rfl) (by kernel_rfl) (by kernel_rfl) hS (y_cell1 (by rfl) rfl rfl Try.underlying3 rfl (fun _ h => h)) ?_
      simp only [Act.put, List.setIfInBounds_toArray, List.set_cons_zero, List.set_cons_succ]
      refine mf_of (i := 1) rfl (by kernel_rfl) (by rfl) fun Q' hQ => ?_
      refine wpList_slice_nil (w := wr.drew) elt_p rfl rfl ?_
      have hb2 : Below wr.heap.size wr (World.alloc wr.drew (.cells #[] 35)) := (Below.refl wr.heap.size wr).drew.alloc (Nat.le_refl _) _
      have B2 := Lib.hid hb2
      have HE2 := Lib.hid (At.new wr.drew #[] 35)
      refine hQ _ _ (fun _ => (Below.cell hb2 (block_lt_of_cell hc5)).trans hc5) ?_
      clear hQ hb2
      clear Q'
      simp only [Act.put, List.setIfInBounds_toArray, List.set_cons_zero, List.set_cons_succ]
      refine mf_of (i := 3) rfl (by kernel_rfl) (by rfl) fun Q' hQ => ?_
      refine wpList_copy_sl (w := World.alloc wr.drew (.cells #[] 35)) (B := wr.heap.size) elt_p rfl _ _ rfl rfl HE2.out (Nat.le_refl _) rfl (Els.slG (E0.out.below B2.out) (G := fun _ => True) fun _ _ _ => trivial) (by omega) ?_
      intro a4 c4 W4 h4 hb4 _
      have B4 := Lib.hid (Below.trans B2.out hb4)
      have E4 := Lib.hid h4
      have E0b := Lib.hid (E0.out.below B4.out)
      have HR4 := Lib.hid (HR.out.below B4.out HR.out.lt)
      have HB4 := Lib.hid (below_trans HBw.out B4.out (by omega))
      have hS4 : W4.cell? ⟨g, 5, none⟩ = some (.int .i64 fu) := (Below.cell B4.out (block_lt_of_cell hc5)).trans hc5
      refine hQ _ _ (fun _ => hS4) ?_
      clear hQ h4 hb4 hS hc5 B2 HE2 E0 HR HBw
      clear Q'
      simp only [Act.put, List.setIfInBounds_toArray, List.set_cons_zero, List.set_cons_succ, List.getElem_toArray, List.getElem_cons_succ, List.getElem_cons_zero]
      refine mf_one (i := 6) (d := 46) (.agg ((refV (.slice (some ⟨ge, 0, none⟩) size c') (.slice a4 size c4) (.slice none 0 0) (.slice none 0 0) true fu))) rfl rfl (by kernel_rfl) hS4 (y_build_parts (L := [(0, .tmp 40), (1, .tmp 43), (4, _), (5, .tmp 45)]) (by rfl) rfl _ rfl (built_crash _ _ rfl rfl fu)) ?_
      simp only [Act.put, List.setIfInBounds_toArray, List.set_cons_zero, List.set_cons_succ]
      refine mf_of (i := 7) rfl (by kernel_rfl) (by rfl) fun Q' hQ => ?_
      refine wpList_store_row rfl 33 _ _ rfl (g + 1) (refV (.slice (some ⟨ge, 0, none⟩) size c') (.slice a4 size c4) (.slice none 0 0) (.slice none 0 0) true fu) rfl rfl _ _ HR4.out (info_ref rfl) rfl (refV_one _ _ _ _ _ _ rfl rfl rfl rfl) ?_
      have HR5 := Lib.hid (HR4.out.setRow (C := (refV (.slice (some ⟨ge, 0, none⟩) size c') (.slice a4 size c4) (.slice none 0 0) (.slice none 0 0) true fu)))
      have ne : ∀ q, Nw w 2 G q → q ≠ g + 1 := fun q hq => by have := Nw.ne HG.out (show 1 < 2 by omega) q hq; have := HGE.out; omega
      have HX := Lib.hid (show RetK w G (fun x => x) size 0 (fun j => lay (keepB kn t) sure sec pg k (j : Nat)) (fun j => lay (keepB kn t) sure sec pg k (j : Nat)) sec pg true fu (.returned (.agg (refV (.slice (some ⟨ge, 0, none⟩) size c') (.slice a4 size c4) (.slice none 0 0) (.slice none 0 0) true fu))) (W4.setRow (g + 1) (refV (.slice (some ⟨ge, 0, none⟩) size c') (.slice a4 size c4) (.slice none 0 0) (.slice none 0 0) true fu)) from
        ⟨_, rfl, by rw [HGE.out]; exact below_setRow' HB4.out (by omega) _, _, _, _, _, _, _, _, _, rfl, ((Els.slG E0b.out (G := Nw w 2 G) fun q hq _ => .inr (by have := HGE.out; omega)).setRow _ ne).sub (fun q hq hl => Nw.out q hq hl), ((Els.slG E4.out (G := Nw w 2 G) fun q hq _ => .inr (by have := HGE.out; omega)).setRow _ ne).sub (fun q hq hl => Nw.out q hq hl), SlG.nil _ _ _ _, SlG.nil _ _ _ _⟩)
      refine hQ _ _ (fun h => by cases h) ?_
      clear hQ ne hS4
      clear Q'
      simp only [Act.put]
      refine mf_done (by kernel_rfl) ?_
      go_wp2_with fail
      exact bodyPost_ret (v := .agg (refV (.slice (some ⟨ge, 0, none⟩) size c') (.slice a4 size c4) (.slice none 0 0) (.slice none 0 0) true fu)) (results_one rfl _ _ (g + 1) _ _ rfl HR5.out Try.underlying33 rfl (info_ref rfl)) rfl HX.out
end Go.Proofs.Ytcahdjkmegnbfaa.Dk
