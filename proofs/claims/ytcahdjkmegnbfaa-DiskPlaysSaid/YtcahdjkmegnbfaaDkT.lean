/- Contract of the document's Write. -/
import Derived.Test.YtcahdjkmegnbfaaDkTa
set_option maxRecDepth 100000
set_option linter.unusedVariables false
set_option linter.unusedSimpArgs false
namespace Go.Proofs.Ytcahdjkmegnbfaa.Dk
open Go.RowKit Go.Proofs.Ytcahdjkmegnbfaa.Row

/-- What stands while the document's Write works: the disk's value V at g, the page, the result; what the other slices hold. -/
structure WS (w W : World) (g : Nat) (G : Nat → Prop) (V P : Array Value) (a0 : Option Addr) (size c0 : Nat) (sure : Nat → Array Value) (a2 : Option Addr) (n c2 : Nat) (sec : Nat → Int) (a3 : Option Addr) (c3 : Nat) (pg : Nat → Array Value) : Prop where
  row : At W g V 33
  page : At W (g + 1) P 35
  res : At W (g + 2) zR 33
  bel : Below g w W
  s0 : SlG W G 64 a0 size c0 sure
  s2 : SlG W G 1 a2 n c2 (fun k => #[.int .i64 (sec k)])
  s3 : SlG W G 64 a3 n c3 pg
  low : (∀ k, G k → k < g) ∧ g ≤ w.heap.size ∧ w.heap.size ≤ g
section
variable {w W W' : World} {g : Nat} {G : Nat → Prop} {V P : Array Value} {a0 : Option Addr} {size c0 : Nat} {sure : Nat → Array Value} {a2 : Option Addr} {n c2 : Nat} {sec : Nat → Int} {a3 : Option Addr} {c3 : Nat} {pg : Nat → Array Value}
theorem WS.below (h : WS w W g G V P a0 size c0 sure a2 n c2 sec a3 c3 pg) (hb : Below W.heap.size W W') : WS w W' g G V P a0 size c0 sure a2 n c2 sec a3 c3 pg :=
  ⟨h.row.below hb h.row.lt, h.page.below hb h.page.lt, h.res.below hb h.res.lt, below_trans h.bel hb (Nat.le_of_lt h.row.lt), h.s0.below hb, h.s2.below hb, h.s3.below hb, h.low⟩
/-- One of the value's cells stored. -/
theorem WS.setV (h : WS w W g G V P a0 size c0 sure a2 n c2 sec a3 c3 pg) (j : Nat) (v : Value) {V' : Array Value} (hV : V.setIfInBounds j v = V') : WS w (W.setCell ⟨g, j, none⟩ v) g G V' P a0 size c0 sure a2 n c2 sec a3 c3 pg := by
  have ne : ∀ k, G k → k ≠ g := fun k hk => by have := h.low.1 k hk; omega
  exact ⟨hV ▸ h.row.setCell, h.page.setCell_other (by show g + 1 ≠ g; omega), h.res.setCell_other (by show g + 2 ≠ g; omega), h.bel.setCell (p := ⟨g, j, none⟩) (Nat.le_refl _) v, h.s0.setCell v ne, h.s2.setCell v ne, h.s3.setCell v ne, h.low⟩
theorem WS.setV_els (h : WS w W g G V P a0 size c0 sure a2 n c2 sec a3 c3 pg) (j : Nat) (v : Value) {B : Nat} {te : TypeId} {m : Nat} {a : Option Addr} {k c : Nat} {F : Nat → Array Value} (he : Els W B te m a k c F) (hB : g < B) : Els (W.setCell ⟨g, j, none⟩ v) B te m a k c F :=
  he.setCell v fun q hq => by have := (he.block q hq).1; show q ≠ g; omega
/-- Another block's row stored. -/
theorem WS.setO (h : WS w W g G V P a0 size c0 sure a2 n c2 sec a3 c3 pg) {q : Nat} (hq : g + 2 < q) (C : Array Value) : WS w (W.setRow q C) g G V P a0 size c0 sure a2 n c2 sec a3 c3 pg := by
  have ne : ∀ k, G k → k ≠ q := fun k hk => by have := h.low.1 k hk; omega
  exact ⟨h.row.setRow_other (by omega), h.page.setRow_other (by omega), h.res.setRow_other (by omega), below_setRow' h.bel (by omega) C, h.s0.setRow C ne, h.s2.setRow C ne, h.s3.setRow C ne, h.low⟩
end
theorem wid_p {P : Array Value} (hP : Pag P) : Wid 64 (fun _ => P) 1 := wid_one hP.size hP.one

set_option maxHeartbeats 16000000 in
/-- Write that goes well. -/
theorem refWrite_yes (w : World) (G : Nat → Prop) (hG : ∀ k, G k → k < w.heap.size) (size n : Nat) (sure seen : Nat → Array Value) (sec : Nat → Int) (pg : Nat → Array Value) (fu : Int) (v : Array Value) (h : Rk w G size n sure seen sec pg false fu v) (hf : (Lit.int .i64 fu).wf = true) (hu : fu ≠ 0) (hs : size ≤ 1024) (hn : n ≤ 1000)
    (ik : Nat) (hik : ik < size) (P : Array Value) (hP : Pag P) :
    Calls Try.prog 19 #[.agg v, .int .i64 ik, .agg P] w (RetK w G (fun x => .tuple #[x, .int .i64 0]) size (n + 1) sure (fun k => if k = ik then P else seen k) (fun k => if k = n then (ik : Int) else sec k) (fun k => if k = n then P else pg k) false (if 0 < fu then fu - 1 else fu)) := by
  have hz := zero_ref
  obtain ⟨a0, c0, a1, c1, a2, c2, a3, c3, rfl, h0, h1, h2, h3⟩ := h
  obtain ⟨hA1, hAp, hA2, hb⟩ := three_new w (refV (.slice a0 size c0) (.slice a1 size c1) (.slice a2 n c2) (.slice a3 n c3) false fu) P zR 33 35
  have HA1 := Lib.hid hA1
  have HF := Lib.hid (fun w => fused_as w (.slice a0 size c0) (.slice a1 size c1) (.slice a2 n c2) (.slice a3 n c3) rfl rfl rfl rfl false fu hf)
  have c4 : _ = some (Value.bool false) := (hA1.cell 4).trans rfl
  have c0' : _ = some (Value.slice a0 size c0) := (hA1.cell 0).trans rfl
  have hne : (fu != 0) = true := by rw [bne_iff_ne]; exact hu
  have HO := Lib.hid (fun x1 x2 x3 fv (h1 : x1.oneCell' = true) (h2 : x2.oneCell' = true) (h3 : x3.oneCell' = true) => refV_one (.slice a0 size c0) x1 x2 x3 false fv rfl h1 h2 h3)
  have HP := Lib.hid hP
  rw [hne] at HF
  have W0 := Lib.hid (show WS w _ w.heap.size G _ P a0 size c0 sure a2 n c2 sec a3 c3 pg from ⟨hA1, hAp, hA2, hb, h0.below hb, h2.below hb, h3.below hb, hG, Nat.le_refl _, Nat.le_refl _⟩)
  have S1 := Lib.hid (h1.below hb)
  have j0 : ¬ (ik : Int) < 0 := by omega
  have j1 : ¬ (size : Int) ≤ (ik : Int) := by omega
  clear hA1 hAp hA2 hb h0 h1 h2 h3 hf hu hG hP
  generalize (if 0 < fu then fu - 1 else fu) = fv at HF ⊢
  go_enter Try.func19, Try.ntmps19
  go_wp2_with (refine wpList_load_range (by rfl) 33 _ rfl w.heap.size 0 rfl (At.rng HA1.out) Try.underlying33 rfl (info_ref rfl) ?_)
  refine (HF.out _).mono ?_
  rintro e W1 ⟨rfl, hb1⟩
  have HW1 := Lib.hid (W0.out.below hb1)
  have S1' := Lib.hid (S1.out.below hb1)
  clear hb1 HA1 HF c4 c0' W0 S1 j0 j1
  obtain ⟨g, hg⟩ : ∃ g, w.heap.size = g := ⟨_, rfl⟩
  have HGE := Lib.hid hg
  rw [hg] at HW1 ⊢
  clear hg
  have HW2 := Lib.hid (show WS w (W1.setRow g (refV (.slice a0 size c0) (.slice a1 size c1) (.slice a2 n c2) (.slice a3 n c3) false fv)) g G (refV (.slice a0 size c0) (.slice a1 size c1) (.slice a2 n c2) (.slice a3 n c3) false fv) P a0 size c0 sure a2 n c2 sec a3 c3 pg from by
    have h := HW1.out
    have ne : ∀ k, G k → k ≠ g := fun k hk => by have := h.low.1 k hk; omega
    exact ⟨h.row.setRow, h.page.setRow_other (by omega), h.res.setRow_other (by omega), below_setRow' h.bel (Nat.le_refl _) _, h.s0.setRow _ ne, h.s2.setRow _ ne, h.s3.setRow _ ne, h.low⟩)
  have S2 := Lib.hid (S1'.out.setRow (g := g) (refV (.slice a0 size c0) (.slice a1 size c1) (.slice a2 n c2) (.slice a3 n c3) false fv) fun k hk => by have := HW1.out.low.1 k hk; omega)
  have HV0 := Lib.hid HW1.out.row
  clear HW1 S1'
  go_wp2_with (first
    | (refine wpList_store_row rfl 33 _ _ rfl g (refV (.slice a0 size c0) (.slice a1 size c1) (.slice a2 n c2) (.slice a3 n c3) false fv) rfl rfl _ _ HV0.out (info_ref rfl) rfl (HO.out _ _ _ _ rfl rfl rfl) ?_
       clear HV0
       revert S2; revert HW2
       generalize World.setRow _ _ _ = W2
       intro HW2 S2
       have d1 : (W2.alloc (.cells #[] 35)).cell? ⟨g, 1, none⟩ = some (.slice a1 size c1) := by
         exact ((HW2.out.row.alloc (.cells #[] 35)).cell 1).trans rfl)
    | (refine wpList_copy_sl (w := W2.alloc (.cells #[] 35)) (B := W2.heap.size) elt_p rfl _ _ rfl rfl (At.new W2 #[] 35) (Nat.le_refl _) rfl (S2.out.below ((Below.refl _ _).alloc (Nat.le_refl _) (.cells #[] 35))) (by omega) ?_
       intro a1' c1' W3 h4 hb4 _
       have hb3 : Below W2.heap.size W2 W3 := Below.trans ((Below.refl W2.heap.size W2).alloc (Nat.le_refl _) (.cells #[] 35)) hb4
       have HW3 := Lib.hid (HW2.out.below hb3)
       have hgB : g + 2 < W2.heap.size := HW2.out.res.lt
       have E3 := Lib.hid h4
       clear h4 hb4 hb3 HW2 S2 d1
       skip)
    | (refine wpList_store1 rfl 30 _ _ rfl (p := ⟨g, 1, none⟩) (v := .slice a1' size c1') rfl rfl (by kernel_rfl) rfl ((HW3.out.row.cell 1).trans rfl) (HW3.out.row.frozen 1) ?_
       have HW4 := Lib.hid (HW3.out.setV 1 (.slice a1' size c1') (V' := (refV (.slice a0 size c0) (.slice a1' size c1') (.slice a2 n c2) (.slice a3 n c3) false fv)) rfl)
       have E4 := Lib.hid (HW3.out.setV_els 1 (.slice a1' size c1') E3.out (by omega))
       clear HW3 E3
       revert E4; revert HW4
       generalize World.setCell _ _ _ = W4
       intro HW4 E4
       obtain ⟨ge, ha1, hge, _⟩ := E4.out.addr (by omega)
       subst ha1
       have rx := run_ex (g := ge) (o := 0) (n := size) (c := c1') elt_p hik
       rw [Nat.zero_add] at rx
       have d1 : W4.cell? ⟨g, 1, none⟩ = some (.slice (some ⟨ge, 0, none⟩) size c1') := (HW4.out.row.cell 1).trans rfl)
    | refine wpList_load_range (by rfl) 35 _ rfl (g + 1) 0 rfl (At.rng HW4.out.page) Try.underlying35 rfl (info_pag HP.out) ?_
    | (obtain ⟨C, hC, hE5⟩ := E4.out.stored hik (P := P) ⟨HP.out.size, HP.out.one⟩
       refine wpList_store_mid rfl 35 _ _ rfl ge (ik * 64) P rfl rfl (by rw [HP.out.size]; exact Els.there E4.out hik) (info_pag HP.out) HP.out.one ?_
       rw [hC]
       have HW5 := Lib.hid (HW4.out.setO (q := ge) (by omega) C)
       have E5 := Lib.hid hE5
       clear HW4 E4 hC hE5 d1 rx
       revert E5; revert HW5
       generalize World.setRow _ _ _ = W5
       intro HW5 E5
       have d2 : (W5.alloc (.cells #[] 3)).cell? ⟨g, 2, none⟩ = some (.slice a2 n c2) := ((HW5.out.row.alloc (.cells #[] 3)).cell 2).trans rfl)
    | (refine wpList_copy_sl (w := W5.alloc (.cells #[] 3)) (B := W5.heap.size) elt_i rfl _ _ rfl rfl (At.new W5 #[] 3) (Nat.le_refl _) rfl (HW5.out.s2.below ((Below.refl _ _).alloc (Nat.le_refl _) (.cells #[] 3))) (by omega) ?_
       intro a2' c2' W6 h4 hb4 _
       have hb6 := Lib.hid (show Below W5.heap.size W5 W6 from Below.trans ((Below.refl W5.heap.size W5).alloc (Nat.le_refl _) (.cells #[] 3)) hb4)
       have E6 := Lib.hid h4
       clear h4 hb4 d2)
    | (refine wpList_append_els elt_i rfl _ _ rfl rfl (E6.out.below ((Below.refl _ _).alloc (Nat.le_refl _) (.cells #[.int .i64 ik] 3))) W6.heap.size 0 1 1 rfl (wid_one (R := #[.int .i64 ik]) rfl (one_int _)) (At.one (At.new W6 #[.int .i64 ik] 3)) (by omega) (Nat.le_trans hb6.out.size (by rw [World.size_alloc]; omega)) ?_
       intro a2b c2b W7 h7 hb7 _ _
       have hb67 : Below W5.heap.size W6 (W6.alloc (.cells #[.int .i64 ik] 3)) := (Below.refl _ _).alloc hb6.out.size _
       have hb57 : Below W5.heap.size W5 W7 := Below.trans (Below.trans hb6.out hb67) hb7
       have HW7 := Lib.hid (HW5.out.below hb57)
       have E7 := Lib.hid (E5.out.below hb57)
       have hgB5 : g + 2 < W5.heap.size := HW5.out.res.lt
       have I7 := Lib.hid h7
       clear h7 hb7 hb67 hb57 HW5 E5 E6 hb6
       skip)
    | (refine wpList_store1 rfl 31 _ _ rfl (p := ⟨g, 2, none⟩) (v := .slice a2b (n + 1) c2b) rfl rfl (by kernel_rfl) rfl ((HW7.out.row.cell 2).trans rfl) (HW7.out.row.frozen 2) ?_
       have HW8 := Lib.hid (HW7.out.setV 2 (.slice a2b (n + 1) c2b) (V' := (refV (.slice a0 size c0) (.slice (some ⟨ge, 0, none⟩) size c1') (.slice a2b (n + 1) c2b) (.slice a3 n c3) false fv)) rfl)
       have E8 := Lib.hid (HW7.out.setV_els 2 (.slice a2b (n + 1) c2b) E7.out (by omega))
       have I8 := Lib.hid (HW7.out.setV_els 2 (.slice a2b (n + 1) c2b) I7.out (by omega))
       clear HW7 E7 I7
       revert I8; revert E8; revert HW8
       generalize World.setCell _ _ _ = W8
       intro HW8 E8 I8))
  have hz8 : g + 2 < W8.heap.size := HW8.out.res.lt
  have S3 := Lib.hid HW8.out.s3
  refine mf_start (fun w' => w'.cell? ⟨g, 3, none⟩ = some (.slice a3 n c3) ∧ At w' (g + 1) P 35) (fun j => j == 8) ⟨(HW8.out.row.cell 3).trans rfl, HW8.out.page⟩ fun hS => ?_
  refine mf_yield (i := 1) (d := 49) (.pointer (some ⟨g, 3, none⟩)) rfl rfl (by kernel_rfl) (by kernel_rfl) (by kernel_rfl) (by kernel_rfl) hS (y_fieldO (by rfl) rfl rfl fld_r3 rfl) ?_
  simp only [Act.put, List.setIfInBounds_toArray, List.set_cons_zero, List.set_cons_succ]
  refine mf_yield (i := 2) (d := 50) (.slice a3 n c3) rfl rfl (by kernel_rfl) (by kernel_rfl) (by kernel_rfl) (by kernel_rfl) hS (y_cell1 (by rfl) rfl rfl Try.underlying30 rfl (fun _ h => h.1)) ?_
  simp only [Act.put, List.setIfInBounds_toArray, List.set_cons_zero, List.set_cons_succ]
  refine mf_yield (i := 4) (d := 52) (.agg P) rfl rfl (by kernel_rfl) (by kernel_rfl) (by kernel_rfl) (by kernel_rfl) hS (y_load_range (by rfl) rfl rfl (fun w' h => At.rng h.2) Try.underlying35 rfl (info_pag HP.out)) ?_
  simp only [Act.put, List.setIfInBounds_toArray, List.set_cons_zero, List.set_cons_succ]
  have HX0 := Lib.hid (show Below W8.heap.size W8 W8.drew from (Below.refl _ _).drew)
  refine mf_ready [0, 5] (by kernel_rfl) (by simp) (af_of (i := 0) rfl (by rfl) (fun Q' hQ => ?_) <| af_of (i := 5) rfl (by rfl) (fun Q' hQ => ?_) <| AllReadyF.nil)
  · refine wpList_slice_nil elt_p rfl rfl ?_
    have HX00 := Lib.hid (show Below W8.heap.size W8 (World.alloc W8.drew (.cells #[] 35)) from HX0.out.alloc HX0.out.size _)
    have HE00 := Lib.hid (At.new W8.drew #[] 35)
    have he : W8.heap.size ≤ W8.drew.heap.size := HX0.out.size
    refine hQ _ _ (fun _ => ⟨((HW8.out.below HX00.out).row.cell 3).trans rfl, (HW8.out.below HX00.out).page⟩) ?_
    clear hQ
    clear Q'
    simp only [Act.put, List.setIfInBounds_toArray, List.set_cons_zero, List.set_cons_succ]
    refine mf_ready [3, 5] (by kernel_rfl) (by simp) (af_of (i := 3) rfl (by rfl) (fun Q' hQ => ?_) <| af_of (i := 5) rfl (by rfl) (fun Q' hQ => ?_) <| AllReadyF.nil)
    · refine wpList_copy_sl (w := (World.alloc W8.drew (.cells #[] 35))) (B := W8.heap.size) elt_p rfl _ _ rfl rfl HE00.out he rfl (S3.out.below HX00.out) (by omega) ?_
      intro a3c c3c W003 h4 hb4 hg4
      have HX003 := Lib.hid (Below.trans HX00.out hb4)
      have HL003 := Lib.hid h4
      refine hQ _ _ (fun _ => ⟨((HW8.out.below HX003.out).row.cell 3).trans rfl, (HW8.out.below HX003.out).page⟩) ?_
      clear hQ h4 hb4 hg4
      clear Q'
      simp only [Act.put, List.setIfInBounds_toArray, List.set_cons_zero, List.set_cons_succ]
      refine mf_of (i := 5) rfl (by kernel_rfl) (by rfl) fun Q' hQ => ?_
      refine wpList_slice_el elt_p HP.out.size (by omega) rfl _ rfl rfl rfl ?_
      have HX0035 := Lib.hid (show Below W8.heap.size W8 (World.alloc W003 (.cells P 35)) from HX003.out.alloc HX003.out.size _)
      have HQ0035 := Lib.hid (At.new W003 P 35)
      have HL0035 := Lib.hid (HL003.out.below ((Below.refl _ _).alloc (Nat.le_refl _) (.cells P 35)))
      refine hQ _ _ (fun _ => ⟨((HW8.out.below HX0035.out).row.cell 3).trans rfl, (HW8.out.below HX0035.out).page⟩) ?_
      clear hQ
      clear Q'
      simp only [Act.put, List.setIfInBounds_toArray, List.set_cons_zero, List.set_cons_succ]
      refine mf_of (i := 6) rfl (by kernel_rfl) (by rfl) fun Q' hQ => ?_
      refine wpList_append_els elt_p rfl _ _ rfl rfl HL0035.out (W003.heap.size) 0 1 1 rfl (wid_p HP.out) (At.one HQ0035.out) (by omega) HX0035.out.size ?_
      intro a3b c3b W9 h9 hb9 _ _
      have HX9 := Lib.hid (Below.trans HX0035.out hb9)
      have HW9 := Lib.hid (HW8.out.below HX9.out)
      have E9 := Lib.hid (E8.out.below HX9.out)
      have I9 := Lib.hid (I8.out.below HX9.out)
      have L9 := Lib.hid h9
      have hS9 : W9.cell? ⟨g, 3, none⟩ = some (.slice a3 n c3) ∧ At W9 (g + 1) P 35 := ⟨(HW9.out.row.cell 3).trans rfl, HW9.out.page⟩
      refine hQ _ _ (fun _ => hS9) ?_
      clear hQ h9 hb9
      clear Q'
      simp only [Act.put, List.setIfInBounds_toArray, List.set_cons_zero, List.set_cons_succ]
      refine mf_one (i := 7) (d := 55) (.pointer (some ⟨g, 3, none⟩)) rfl rfl (by kernel_rfl) hS9 (y_fieldO (by rfl) rfl rfl fld_r3 rfl) ?_
      simp only [Act.put, List.setIfInBounds_toArray, List.set_cons_zero, List.set_cons_succ]
      refine mf_of (i := 8) rfl (by kernel_rfl) (by rfl) fun Q' hQ => ?_
      refine wpList_store1 rfl 30 _ _ rfl (p := ⟨g, 3, none⟩) (v := .slice a3b (n + 1) c3b) rfl rfl (by kernel_rfl) rfl hS9.1 (HW9.out.row.frozen 3) ?_
      have HW10 := Lib.hid (HW9.out.setV 3 (.slice a3b (n + 1) c3b) (V' := (refV (.slice a0 size c0) (.slice (some ⟨ge, 0, none⟩) size c1') (.slice a2b (n + 1) c2b) (.slice a3b (n + 1) c3b) false fv)) rfl)
      have E10 := Lib.hid (HW9.out.setV_els 3 (.slice a3b (n + 1) c3b) E9.out (by omega))
      have I10 := Lib.hid (HW9.out.setV_els 3 (.slice a3b (n + 1) c3b) I9.out (by omega))
      have L10 := Lib.hid (HW9.out.setV_els 3 (.slice a3b (n + 1) c3b) L9.out (by omega))
      refine hQ _ _ (fun h => by cases h) ?_
      clear hQ hS9 HW9 E9 I9 L9 HX9 HW8 E8 I8
      clear Q'
      simp only [Act.put]
      refine mf_done (by kernel_rfl) ?_
      revert L10; revert I10; revert E10; revert HW10
      generalize World.setCell _ _ _ = W10
      intro HW10 E10 I10 L10
      have hGw : ∀ k, G k → k < w.heap.size := fun k hk => by have := HW10.out.low.1 k hk; have := HGE.out; omega
      have ne2 : ∀ k, Nw w 3 G k → k ≠ g + 2 := fun k hk => by have := Nw.ne hGw (show 2 < 3 by omega) k hk; have := HGE.out; omega
      have R0 := Lib.hid (HW10.out.s0.sub (H := Nw w 3 G) fun k hk _ => .inl hk)
      have R1 := Lib.hid (Els.slG E10.out (G := Nw w 3 G) fun k hk _ => .inr (by have := HGE.out; omega))
      have R2 := Lib.hid ((Els.slG I10.out (G := Nw w 3 G) fun k hk _ => .inr (by have := HGE.out; omega)).ext (K := fun k => #[.int .i64 (if k = n then (ik : Int) else sec k)]) fun k hk => by
        show catE _ _ _ k = _
        unfold catE
        by_cases e : k = n
        · rw [if_neg (by omega), if_pos e]
        · rw [if_pos (by omega), if_neg e])
      have R3 := Lib.hid ((Els.slG L10.out (G := Nw w 3 G) fun k hk _ => .inr (by have := HGE.out; omega)).ext (K := fun k => if k = n then P else pg k) fun k hk => by
        show catE _ _ _ k = _
        unfold catE
        by_cases e : k = n
        · rw [if_neg (by omega), if_pos e]
        · rw [if_pos (by omega), if_neg e])
      clear E10 I10 L10
      go_wp2_with (first
        | refine wpList_load_range (by rfl) 33 _ rfl g 0 rfl (At.rng HW10.out.row) Try.underlying33 rfl (info_ref rfl) ?_
        | (refine wpList_store_row rfl 33 _ _ rfl (g + 2) (refV (.slice a0 size c0) (.slice (some ⟨ge, 0, none⟩) size c1') (.slice a2b (n + 1) c2b) (.slice a3b (n + 1) c3b) false fv) rfl rfl _ _ HW10.out.res (info_ref rfl) rfl (HO.out _ _ _ _ rfl rfl rfl) ?_
           have HR2 := Lib.hid (HW10.out.res.setRow (C := (refV (.slice a0 size c0) (.slice (some ⟨ge, 0, none⟩) size c1') (.slice a2b (n + 1) c2b) (.slice a3b (n + 1) c3b) false fv)))
           have HX := Lib.hid (show RetK w G (fun x => .tuple #[x, .int .i64 0]) size (n + 1) sure (fun k => if k = ik then P else seen k) (fun k => if k = n then (ik : Int) else sec k) (fun k => if k = n then P else pg k) false fv (.returned (.tuple #[.agg (refV (.slice a0 size c0) (.slice (some ⟨ge, 0, none⟩) size c1') (.slice a2b (n + 1) c2b) (.slice a3b (n + 1) c3b) false fv), .int .i64 0])) (W10.setRow (g + 2) (refV (.slice a0 size c0) (.slice (some ⟨ge, 0, none⟩) size c1') (.slice a2b (n + 1) c2b) (.slice a3b (n + 1) c3b) false fv)) from
             ⟨_, rfl, by rw [HGE.out]; exact below_setRow' HW10.out.bel (by omega) _, a0, c0, some ⟨ge, 0, none⟩, c1', a2b, c2b, a3b, c3b, rfl, (R0.out.setRow _ ne2).sub (fun k hk hl => Nw.out k hk hl), (R1.out.setRow _ ne2).sub (fun k hk hl => Nw.out k hk hl), (R2.out.setRow _ ne2).sub (fun k hk hl => Nw.out k hk hl), (R3.out.setRow _ ne2).sub (fun k hk hl => Nw.out k hk hl)⟩)
           clear R0 R1 R2 R3))
      exact bodyPost_ret (v := .tuple #[.agg (refV (.slice a0 size c0) (.slice (some ⟨ge, 0, none⟩) size c1') (.slice a2b (n + 1) c2b) (.slice a3b (n + 1) c3b) false fv), .int .i64 0]) (results_any_int rfl _ _ (g + 2) _ _ rfl rfl HR2.out Try.underlying33 rfl (info_ref rfl)) rfl HX.out
    · refine wpList_slice_el elt_p HP.out.size (by omega) rfl _ rfl rfl rfl ?_
      have HX005 := Lib.hid (show Below W8.heap.size W8 (World.alloc (World.alloc W8.drew (.cells #[] 35)) (.cells P 35)) from HX00.out.alloc HX00.out.size _)
      have HQ005 := Lib.hid (At.new (World.alloc W8.drew (.cells #[] 35)) P 35)
      have HE005 := Lib.hid (HE00.out.alloc (.cells P 35))
      refine hQ _ _ (fun _ => ⟨((HW8.out.below HX005.out).row.cell 3).trans rfl, (HW8.out.below HX005.out).page⟩) ?_
      clear hQ
      clear Q'
      simp only [Act.put, List.setIfInBounds_toArray, List.set_cons_zero, List.set_cons_succ]
      refine mf_of (i := 3) rfl (by kernel_rfl) (by rfl) fun Q' hQ => ?_
      refine wpList_copy_sl (w := (World.alloc (World.alloc W8.drew (.cells #[] 35)) (.cells P 35))) (B := W8.heap.size) elt_p rfl _ _ rfl rfl HE005.out he rfl (S3.out.below HX005.out) (by omega) ?_
      intro a3c c3c W0053 h4 hb4 hg4
      have HX0053 := Lib.hid (Below.trans HX005.out hb4)
      have HL0053 := Lib.hid h4
      have HQ0053 := Lib.hid (show At W0053 (World.alloc W8.drew (.cells #[] 35)).heap.size P 35 from (hg4.block _ HQ005.out.lt (by simp [World.size_alloc])).trans HQ005.out)
      refine hQ _ _ (fun _ => ⟨((HW8.out.below HX0053.out).row.cell 3).trans rfl, (HW8.out.below HX0053.out).page⟩) ?_
      clear hQ h4 hb4 hg4
      clear Q'
      simp only [Act.put, List.setIfInBounds_toArray, List.set_cons_zero, List.set_cons_succ]
      refine mf_of (i := 6) rfl (by kernel_rfl) (by rfl) fun Q' hQ => ?_
      refine wpList_append_els elt_p rfl _ _ rfl rfl HL0053.out ((World.alloc W8.drew (.cells #[] 35)).heap.size) 0 1 1 rfl (wid_p HP.out) (At.one HQ0053.out) (by omega) HX0053.out.size ?_
      intro a3b c3b W9 h9 hb9 _ _
      have HX9 := Lib.hid (Below.trans HX0053.out hb9)
      have HW9 := Lib.hid (HW8.out.below HX9.out)
      have E9 := Lib.hid (E8.out.below HX9.out)
      have I9 := Lib.hid (I8.out.below HX9.out)
      have L9 := Lib.hid h9
      have hS9 : W9.cell? ⟨g, 3, none⟩ = some (.slice a3 n c3) ∧ At W9 (g + 1) P 35 := ⟨(HW9.out.row.cell 3).trans rfl, HW9.out.page⟩
      refine hQ _ _ (fun _ => hS9) ?_
      clear hQ h9 hb9
      clear Q'
      simp only [Act.put, List.setIfInBounds_toArray, List.set_cons_zero, List.set_cons_succ]
      refine mf_one (i := 7) (d := 55) (.pointer (some ⟨g, 3, none⟩)) rfl rfl (by kernel_rfl) hS9 (y_fieldO (by rfl) rfl rfl fld_r3 rfl) ?_
      simp only [Act.put, List.setIfInBounds_toArray, List.set_cons_zero, List.set_cons_succ]
      refine mf_of (i := 8) rfl (by kernel_rfl) (by rfl) fun Q' hQ => ?_
      refine wpList_store1 rfl 30 _ _ rfl (p := ⟨g, 3, none⟩) (v := .slice a3b (n + 1) c3b) rfl rfl (by kernel_rfl) rfl hS9.1 (HW9.out.row.frozen 3) ?_
      have HW10 := Lib.hid (HW9.out.setV 3 (.slice a3b (n + 1) c3b) (V' := (refV (.slice a0 size c0) (.slice (some ⟨ge, 0, none⟩) size c1') (.slice a2b (n + 1) c2b) (.slice a3b (n + 1) c3b) false fv)) rfl)
      have E10 := Lib.hid (HW9.out.setV_els 3 (.slice a3b (n + 1) c3b) E9.out (by omega))
      have I10 := Lib.hid (HW9.out.setV_els 3 (.slice a3b (n + 1) c3b) I9.out (by omega))
      have L10 := Lib.hid (HW9.out.setV_els 3 (.slice a3b (n + 1) c3b) L9.out (by omega))
      refine hQ _ _ (fun h => by cases h) ?_
      clear hQ hS9 HW9 E9 I9 L9 HX9 HW8 E8 I8
      clear Q'
      simp only [Act.put]
      refine mf_done (by kernel_rfl) ?_
      revert L10; revert I10; revert E10; revert HW10
      generalize World.setCell _ _ _ = W10
      intro HW10 E10 I10 L10
      have hGw : ∀ k, G k → k < w.heap.size := fun k hk => by have := HW10.out.low.1 k hk; have := HGE.out; omega
      have ne2 : ∀ k, Nw w 3 G k → k ≠ g + 2 := fun k hk => by have := Nw.ne hGw (show 2 < 3 by omega) k hk; have := HGE.out; omega
      have R0 := Lib.hid (HW10.out.s0.sub (H := Nw w 3 G) fun k hk _ => .inl hk)
      have R1 := Lib.hid (Els.slG E10.out (G := Nw w 3 G) fun k hk _ => .inr (by have := HGE.out; omega))
      have R2 := Lib.hid ((Els.slG I10.out (G := Nw w 3 G) fun k hk _ => .inr (by have := HGE.out; omega)).ext (K := fun k => #[.int .i64 (if k = n then (ik : Int) else sec k)]) fun k hk => by
        show catE _ _ _ k = _
        unfold catE
        by_cases e : k = n
        · rw [if_neg (by omega), if_pos e]
        · rw [if_pos (by omega), if_neg e])
      have R3 := Lib.hid ((Els.slG L10.out (G := Nw w 3 G) fun k hk _ => .inr (by have := HGE.out; omega)).ext (K := fun k => if k = n then P else pg k) fun k hk => by
        show catE _ _ _ k = _
        unfold catE
        by_cases e : k = n
        · rw [if_neg (by omega), if_pos e]
        · rw [if_pos (by omega), if_neg e])
      clear E10 I10 L10
      go_wp2_with (first
        | refine wpList_load_range (by rfl) 33 _ rfl g 0 rfl (At.rng HW10.out.row) Try.underlying33 rfl (info_ref rfl) ?_
        | (refine wpList_store_row rfl 33 _ _ rfl (g + 2) (refV (.slice a0 size c0) (.slice (some ⟨ge, 0, none⟩) size c1') (.slice a2b (n + 1) c2b) (.slice a3b (n + 1) c3b) false fv) rfl rfl _ _ HW10.out.res (info_ref rfl) rfl (HO.out _ _ _ _ rfl rfl rfl) ?_
           have HR2 := Lib.hid (HW10.out.res.setRow (C := (refV (.slice a0 size c0) (.slice (some ⟨ge, 0, none⟩) size c1') (.slice a2b (n + 1) c2b) (.slice a3b (n + 1) c3b) false fv)))
           have HX := Lib.hid (show RetK w G (fun x => .tuple #[x, .int .i64 0]) size (n + 1) sure (fun k => if k = ik then P else seen k) (fun k => if k = n then (ik : Int) else sec k) (fun k => if k = n then P else pg k) false fv (.returned (.tuple #[.agg (refV (.slice a0 size c0) (.slice (some ⟨ge, 0, none⟩) size c1') (.slice a2b (n + 1) c2b) (.slice a3b (n + 1) c3b) false fv), .int .i64 0])) (W10.setRow (g + 2) (refV (.slice a0 size c0) (.slice (some ⟨ge, 0, none⟩) size c1') (.slice a2b (n + 1) c2b) (.slice a3b (n + 1) c3b) false fv)) from
             ⟨_, rfl, by rw [HGE.out]; exact below_setRow' HW10.out.bel (by omega) _, a0, c0, some ⟨ge, 0, none⟩, c1', a2b, c2b, a3b, c3b, rfl, (R0.out.setRow _ ne2).sub (fun k hk hl => Nw.out k hk hl), (R1.out.setRow _ ne2).sub (fun k hk hl => Nw.out k hk hl), (R2.out.setRow _ ne2).sub (fun k hk hl => Nw.out k hk hl), (R3.out.setRow _ ne2).sub (fun k hk hl => Nw.out k hk hl)⟩)
           clear R0 R1 R2 R3))
      exact bodyPost_ret (v := .tuple #[.agg (refV (.slice a0 size c0) (.slice (some ⟨ge, 0, none⟩) size c1') (.slice a2b (n + 1) c2b) (.slice a3b (n + 1) c3b) false fv), .int .i64 0]) (results_any_int rfl _ _ (g + 2) _ _ rfl rfl HR2.out Try.underlying33 rfl (info_ref rfl)) rfl HX.out
  · refine wpList_slice_el elt_p HP.out.size (by omega) rfl _ rfl rfl rfl ?_
    have HX05 := Lib.hid (show Below W8.heap.size W8 (World.alloc W8.drew (.cells P 35)) from HX0.out.alloc HX0.out.size _)
    have HQ05 := Lib.hid (At.new W8.drew P 35)
    refine hQ _ _ (fun _ => ⟨((HW8.out.below HX05.out).row.cell 3).trans rfl, (HW8.out.below HX05.out).page⟩) ?_
    clear hQ
    clear Q'
    simp only [Act.put, List.setIfInBounds_toArray, List.set_cons_zero, List.set_cons_succ]
    refine mf_of (i := 0) rfl (by kernel_rfl) (by rfl) fun Q' hQ => ?_
    refine wpList_slice_nil elt_p rfl rfl ?_
    have HX050 := Lib.hid (show Below W8.heap.size W8 (World.alloc (World.alloc W8.drew (.cells P 35)) (.cells #[] 35)) from HX05.out.alloc HX05.out.size _)
    have HE050 := Lib.hid (At.new (World.alloc W8.drew (.cells P 35)) #[] 35)
    have he : W8.heap.size ≤ (World.alloc W8.drew (.cells P 35)).heap.size := HX05.out.size
    have HQ050 := Lib.hid (HQ05.out.alloc (.cells #[] 35))
    refine hQ _ _ (fun _ => ⟨((HW8.out.below HX050.out).row.cell 3).trans rfl, (HW8.out.below HX050.out).page⟩) ?_
    clear hQ
    clear Q'
    simp only [Act.put, List.setIfInBounds_toArray, List.set_cons_zero, List.set_cons_succ]
    refine mf_of (i := 3) rfl (by kernel_rfl) (by rfl) fun Q' hQ => ?_
    refine wpList_copy_sl (w := (World.alloc (World.alloc W8.drew (.cells P 35)) (.cells #[] 35))) (B := W8.heap.size) elt_p rfl _ _ rfl rfl HE050.out he rfl (S3.out.below HX050.out) (by omega) ?_
    intro a3c c3c W0503 h4 hb4 hg4
    have HX0503 := Lib.hid (Below.trans HX050.out hb4)
    have HL0503 := Lib.hid h4
    have HQ0503 := Lib.hid (show At W0503 W8.drew.heap.size P 35 from (hg4.block _ HQ050.out.lt (by simp [World.size_alloc])).trans HQ050.out)
    refine hQ _ _ (fun _ => ⟨((HW8.out.below HX0503.out).row.cell 3).trans rfl, (HW8.out.below HX0503.out).page⟩) ?_
    clear hQ h4 hb4 hg4
    clear Q'
    simp only [Act.put, List.setIfInBounds_toArray, List.set_cons_zero, List.set_cons_succ]
    refine mf_of (i := 6) rfl (by kernel_rfl) (by rfl) fun Q' hQ => ?_
    refine wpList_append_els elt_p rfl _ _ rfl rfl HL0503.out (W8.drew.heap.size) 0 1 1 rfl (wid_p HP.out) (At.one HQ0503.out) (by omega) HX0503.out.size ?_
    intro a3b c3b W9 h9 hb9 _ _
    have HX9 := Lib.hid (Below.trans HX0503.out hb9)
    have HW9 := Lib.hid (HW8.out.below HX9.out)
    have E9 := Lib.hid (E8.out.below HX9.out)
    have I9 := Lib.hid (I8.out.below HX9.out)
    have L9 := Lib.hid h9
    have hS9 : W9.cell? ⟨g, 3, none⟩ = some (.slice a3 n c3) ∧ At W9 (g + 1) P 35 := ⟨(HW9.out.row.cell 3).trans rfl, HW9.out.page⟩
    refine hQ _ _ (fun _ => hS9) ?_
    clear hQ h9 hb9
    clear Q'
    simp only [Act.put, List.setIfInBounds_toArray, List.set_cons_zero, List.set_cons_succ]
    refine mf_one (i := 7) (d := 55) (.pointer (some ⟨g, 3, none⟩)) rfl rfl (by kernel_rfl) hS9 (y_fieldO (by rfl) rfl rfl fld_r3 rfl) ?_
    simp only [Act.put, List.setIfInBounds_toArray, List.set_cons_zero, List.set_cons_succ]
    refine mf_of (i := 8) rfl (by kernel_rfl) (by rfl) fun Q' hQ => ?_
    refine wpList_store1 rfl 30 _ _ rfl (p := ⟨g, 3, none⟩) (v := .slice a3b (n + 1) c3b) rfl rfl (by kernel_rfl) rfl hS9.1 (HW9.out.row.frozen 3) ?_
    have HW10 := Lib.hid (HW9.out.setV 3 (.slice a3b (n + 1) c3b) (V' := (refV (.slice a0 size c0) (.slice (some ⟨ge, 0, none⟩) size c1') (.slice a2b (n + 1) c2b) (.slice a3b (n + 1) c3b) false fv)) rfl)
    have E10 := Lib.hid (HW9.out.setV_els 3 (.slice a3b (n + 1) c3b) E9.out (by omega))
    have I10 := Lib.hid (HW9.out.setV_els 3 (.slice a3b (n + 1) c3b) I9.out (by omega))
    have L10 := Lib.hid (HW9.out.setV_els 3 (.slice a3b (n + 1) c3b) L9.out (by omega))
    refine hQ _ _ (fun h => by cases h) ?_
    clear hQ hS9 HW9 E9 I9 L9 HX9 HW8 E8 I8
    clear Q'
    simp only [Act.put]
    refine mf_done (by kernel_rfl) ?_
    revert L10; revert I10; revert E10; revert HW10
    generalize World.setCell _ _ _ = W10
    intro HW10 E10 I10 L10
    have hGw : ∀ k, G k → k < w.heap.size := fun k hk => by have := HW10.out.low.1 k hk; have := HGE.out; omega
    have ne2 : ∀ k, Nw w 3 G k → k ≠ g + 2 := fun k hk => by have := Nw.ne hGw (show 2 < 3 by omega) k hk; have := HGE.out; omega
    have R0 := Lib.hid (HW10.out.s0.sub (H := Nw w 3 G) fun k hk _ => .inl hk)
    have R1 := Lib.hid (Els.slG E10.out (G := Nw w 3 G) fun k hk _ => .inr (by have := HGE.out; omega))
    have R2 := Lib.hid ((Els.slG I10.out (G := Nw w 3 G) fun k hk _ => .inr (by have := HGE.out; omega)).ext (K := fun k => #[.int .i64 (if k = n then (ik : Int) else sec k)]) fun k hk => by
      show catE _ _ _ k = _
      unfold catE
      by_cases e : k = n
      · rw [if_neg (by omega), if_pos e]
      · rw [if_pos (by omega), if_neg e])
    have R3 := Lib.hid ((Els.slG L10.out (G := Nw w 3 G) fun k hk _ => .inr (by have := HGE.out; omega)).ext (K := fun k => if k = n then P else pg k) fun k hk => by
      show catE _ _ _ k = _
      unfold catE
      by_cases e : k = n
      · rw [if_neg (by omega), if_pos e]
      · rw [if_pos (by omega), if_neg e])
    clear E10 I10 L10
    go_wp2_with (first
      | refine wpList_load_range (by rfl) 33 _ rfl g 0 rfl (At.rng HW10.out.row) Try.underlying33 rfl (info_ref rfl) ?_
      | (refine wpList_store_row rfl 33 _ _ rfl (g + 2) (refV (.slice a0 size c0) (.slice (some ⟨ge, 0, none⟩) size c1') (.slice a2b (n + 1) c2b) (.slice a3b (n + 1) c3b) false fv) rfl rfl _ _ HW10.out.res (info_ref rfl) rfl (HO.out _ _ _ _ rfl rfl rfl) ?_
         have HR2 := Lib.hid (HW10.out.res.setRow (C := (refV (.slice a0 size c0) (.slice (some ⟨ge, 0, none⟩) size c1') (.slice a2b (n + 1) c2b) (.slice a3b (n + 1) c3b) false fv)))
         have HX := Lib.hid (show RetK w G (fun x => .tuple #[x, .int .i64 0]) size (n + 1) sure (fun k => if k = ik then P else seen k) (fun k => if k = n then (ik : Int) else sec k) (fun k => if k = n then P else pg k) false fv (.returned (.tuple #[.agg (refV (.slice a0 size c0) (.slice (some ⟨ge, 0, none⟩) size c1') (.slice a2b (n + 1) c2b) (.slice a3b (n + 1) c3b) false fv), .int .i64 0])) (W10.setRow (g + 2) (refV (.slice a0 size c0) (.slice (some ⟨ge, 0, none⟩) size c1') (.slice a2b (n + 1) c2b) (.slice a3b (n + 1) c3b) false fv)) from
           ⟨_, rfl, by rw [HGE.out]; exact below_setRow' HW10.out.bel (by omega) _, a0, c0, some ⟨ge, 0, none⟩, c1', a2b, c2b, a3b, c3b, rfl, (R0.out.setRow _ ne2).sub (fun k hk hl => Nw.out k hk hl), (R1.out.setRow _ ne2).sub (fun k hk hl => Nw.out k hk hl), (R2.out.setRow _ ne2).sub (fun k hk hl => Nw.out k hk hl), (R3.out.setRow _ ne2).sub (fun k hk hl => Nw.out k hk hl)⟩)
         clear R0 R1 R2 R3))
    exact bodyPost_ret (v := .tuple #[.agg (refV (.slice a0 size c0) (.slice (some ⟨ge, 0, none⟩) size c1') (.slice a2b (n + 1) c2b) (.slice a3b (n + 1) c3b) false fv), .int .i64 0]) (results_any_int rfl _ _ (g + 2) _ _ rfl rfl HR2.out Try.underlying33 rfl (info_ref rfl)) rfl HX.out

end Go.Proofs.Ytcahdjkmegnbfaa.Dk
