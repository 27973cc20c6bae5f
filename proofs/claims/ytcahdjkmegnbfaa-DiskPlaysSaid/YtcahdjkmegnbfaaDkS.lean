/- Contract of the document's Sync. -/
import Derived.Test.YtcahdjkmegnbfaaDkR
set_option maxRecDepth 100000
set_option linter.unusedVariables false
set_option linter.unusedSimpArgs false
namespace Go.Proofs.Ytcahdjkmegnbfaa.Dk
open Go.RowKit Go.Proofs.Ytcahdjkmegnbfaa.Row

/-- What was there, and what is new. -/
theorem Rk.later {w w' : World} {G : Nat → Prop} {size n : Nat} {sure seen : Nat → Array Value} {sec : Nat → Int} {pg : Nat → Array Value} {dn : Bool} {fu : Int} {v : Array Value} (h : Rk w G size n sure seen sec pg dn fu v) (hb : Below w.heap.size w w') :
    Rk w' (fun k => G k ∨ (w.heap.size ≤ k ∧ k < w'.heap.size)) size n sure seen sec pg dn fu v := (h.below hb).sub fun k hk _ => .inl hk
/-- Two values in new blocks. -/
theorem two_new (w : World) (V Z : Array Value) (t : TypeId) : At ((w.alloc (.cells V t)).alloc (.cells Z t)) w.heap.size V t ∧ At ((w.alloc (.cells V t)).alloc (.cells Z t)) (w.heap.size + 1) Z t ∧ Below w.heap.size w ((w.alloc (.cells V t)).alloc (.cells Z t)) := by
  have h2 := At.new (w.alloc (.cells V t)) Z t
  rw [World.size_alloc] at h2
  exact ⟨(At.new w V t).alloc _, h2, ((Below.refl w.heap.size w).alloc (Nat.le_refl _) _).alloc (by simp) _⟩
theorem run_ref {A : Array Value} (h : A.size = 6) : (Try.prog.info? 33).map (·.size) = some A.size := info_ref h

theorem refSync_down (w : World) (x0 x1 x2 x3 : Value) (h0 : x0.oneCell' = true) (h1 : x1.oneCell' = true) (h2 : x2.oneCell' = true) (h3 : x3.oneCell' = true) (fu : Int) :
    Calls Try.prog 13 #[.agg (refV x0 x1 x2 x3 true fu)] w fun e w' => e = .returned (.tuple #[.agg (refV x0 x1 x2 x3 true fu), .int .i64 7]) ∧ Below w.heap.size w w' := by
  have hz := zero_ref
  obtain ⟨hA1, hA2, hb⟩ := two_new w (refV x0 x1 x2 x3 true fu) zR 33
  have HA1 := Lib.hid hA1
  have HA2 := Lib.hid hA2
  have HB := Lib.hid hb
  have HO := Lib.hid (refV_one x0 x1 x2 x3 true fu h0 h1 h2 h3)
  have c4 : _ = some (Value.bool true) := (hA1.cell 4).trans rfl
  clear hA1 hA2 hb h0 h1 h2 h3
  go_enter Try.func13, Try.ntmps13
  go_wp2_with (first
    | refine wpList_load_range (by rfl) 33 _ rfl w.heap.size 0 rfl (At.rng HA1.out) Try.underlying33 rfl (info_ref rfl) ?_
    | (refine wpList_store_row rfl 33 _ _ rfl (w.heap.size + 1) (refV x0 x1 x2 x3 true fu) rfl rfl _ _ HA2.out (info_ref rfl) rfl HO.out ?_
       have HR := Lib.hid (HA2.out.setRow (C := refV x0 x1 x2 x3 true fu))
       have HBB := Lib.hid (below_setRow' HB.out (Nat.le_succ _) (refV x0 x1 x2 x3 true fu))))
  exact bodyPost_ret (v := .tuple #[.agg (refV x0 x1 x2 x3 true fu), .int .i64 7]) (results_any_int rfl _ _ (w.heap.size + 1) _ _ rfl rfl HR.out Try.underlying33 rfl (info_ref rfl)) rfl ⟨rfl, HBB.out⟩
theorem refSync_burnt (w : World) (x0 x1 x2 x3 : Value) (h0 : x0.oneCell' = true) (h1 : x1.oneCell' = true) (h2 : x2.oneCell' = true) (h3 : x3.oneCell' = true) :
    Calls Try.prog 13 #[.agg (refV x0 x1 x2 x3 false 0)] w fun e w' => e = .returned (.tuple #[.agg (refV x0 x1 x2 x3 false 0), .int .i64 6]) ∧ Below w.heap.size w w' := by
  have hz := zero_ref
  obtain ⟨hA1, hA2, hb⟩ := two_new w (refV x0 x1 x2 x3 false 0) zR 33
  have HA1 := Lib.hid hA1
  have HA2 := Lib.hid hA2
  have HB := Lib.hid hb
  have HO := Lib.hid (refV_one x0 x1 x2 x3 false 0 h0 h1 h2 h3)
  have HF := Lib.hid (fun w => fused_as w x0 x1 x2 x3 h0 h1 h2 h3 false 0 (by decide))
  have c4 : _ = some (Value.bool false) := (hA1.cell 4).trans rfl
  clear hA1 hA2 hb h0 h1 h2 h3
  go_enter Try.func13, Try.ntmps13
  go_wp2_with (refine wpList_load_range (by rfl) 33 _ rfl w.heap.size 0 rfl (At.rng HA1.out) Try.underlying33 rfl (info_ref rfl) ?_)
  refine (HF.out _).mono ?_
  rintro e W1 ⟨rfl, hb1⟩
  have HV := Lib.hid (HA1.out.below hb1 HA1.out.lt)
  have HR := Lib.hid (HA2.out.below hb1 HA2.out.lt)
  have HB1 := Lib.hid (below_trans HB.out hb1 HB.out.size)
  rw [if_neg (by omega)]
  clear hb1 HA1 HA2 HB HF c4
  go_wp2_with (first
    | (refine wpList_store_row rfl 33 _ _ rfl w.heap.size (refV x0 x1 x2 x3 false 0) rfl rfl _ _ HV.out (info_ref rfl) rfl HO.out ?_
       rw [Row.setRow_self HV.out])
    | refine wpList_load_range (by rfl) 33 _ rfl w.heap.size 0 rfl (At.rng HV.out) Try.underlying33 rfl (info_ref rfl) ?_
    | (refine wpList_store_row rfl 33 _ _ rfl (w.heap.size + 1) (refV x0 x1 x2 x3 false 0) rfl rfl _ _ HR.out (info_ref rfl) rfl HO.out ?_
       have HR2 := Lib.hid (HR.out.setRow (C := refV x0 x1 x2 x3 false 0))
       have HBB := Lib.hid (below_setRow' HB1.out (Nat.le_succ _) (refV x0 x1 x2 x3 false 0))))
  exact bodyPost_ret (v := .tuple #[.agg (refV x0 x1 x2 x3 false 0), .int .i64 6]) (results_any_int rfl _ _ (w.heap.size + 1) _ _ rfl rfl HR2.out Try.underlying33 rfl (info_ref rfl)) rfl ⟨rfl, HBB.out⟩

/-- G's blocks, and those behind q new ones. -/
def Nw (w : World) (q : Nat) (G : Nat → Prop) (k : Nat) : Prop := G k ∨ w.heap.size + q ≤ k
theorem Nw.ne {w : World} {q j : Nat} {G : Nat → Prop} (hG : ∀ k, G k → k < w.heap.size) (hj : j < q) : ∀ k, Nw w q G k → k ≠ w.heap.size + j := fun k hk => by
  rcases hk with hk | hk
  · have := hG k hk; omega
  · omega
theorem Nw.out {w w' : World} {q : Nat} {G : Nat → Prop} : ∀ k, Nw w q G k → k < w'.heap.size → G k ∨ (w.heap.size ≤ k ∧ k < w'.heap.size) := fun k hk hl => hk.imp id fun h => ⟨by omega, hl⟩

set_option maxHeartbeats 1000000 in
/-- Sync that goes well. -/
theorem refSync_yes (w : World) (G : Nat → Prop) (hG : ∀ k, G k → k < w.heap.size) (size n : Nat) (sure seen : Nat → Array Value) (sec : Nat → Int) (pg : Nat → Array Value) (fu : Int) (v : Array Value) (h : Rk w G size n sure seen sec pg false fu v) (hf : (Lit.int .i64 fu).wf = true) (hu : fu ≠ 0) (hs : size ≤ 1024) :
    Calls Try.prog 13 #[.agg v] w (RetK w G (fun x => .tuple #[x, .int .i64 0]) size 0 seen seen sec pg false (if 0 < fu then fu - 1 else fu)) := by
  have hz := zero_ref
  obtain ⟨a0, c0, a1, c1, a2, c2, a3, c3, rfl, h0, h1, h2, h3⟩ := h
  obtain ⟨x0, hx0⟩ : ∃ x0, Value.slice a0 size c0 = x0 := ⟨_, rfl⟩
  obtain ⟨x2, hx2⟩ : ∃ x2, Value.slice a2 n c2 = x2 := ⟨_, rfl⟩
  obtain ⟨x3, hx3⟩ : ∃ x3, Value.slice a3 n c3 = x3 := ⟨_, rfl⟩
  have o0 : x0.oneCell' = true := by rw [← hx0]; rfl
  have o2 : x2.oneCell' = true := by rw [← hx2]; rfl
  have o3 : x3.oneCell' = true := by rw [← hx3]; rfl
  rw [hx0, hx2, hx3]
  obtain ⟨hA1, hA2, hb⟩ := two_new w (refV x0 (.slice a1 size c1) x2 x3 false fu) zR 33
  have HA1 := Lib.hid hA1
  have HA2 := Lib.hid hA2
  have HB := Lib.hid hb
  have HF := Lib.hid (fun w => fused_as w x0 (.slice a1 size c1) x2 x3 o0 rfl o2 o3 false fu hf)
  have c4 : _ = some (Value.bool false) := (hA1.cell 4).trans rfl
  have hne : (fu != 0) = true := by rw [bne_iff_ne]; exact hu
  have HS := Lib.hid (h1.sub (H := Nw w 2 G) fun k hk _ => .inl hk)
  have HG := Lib.hid hG
  have HO := Lib.hid (fun y fv hy => refV_one y (.slice a1 size c1) (.slice none 0 0) (.slice none 0 0) false fv hy rfl rfl rfl)
  have HO1 := Lib.hid (fun fv => refV_one x0 (.slice a1 size c1) x2 x3 false fv o0 rfl o2 o3)
  clear hA1 hA2 hb h0 h1 h2 h3 hf hu hx0 hx2 hx3 hG o0 o2 o3
  rw [hne] at HF
  generalize (if 0 < fu then fu - 1 else fu) = fv at HF ⊢
  go_enter Try.func13, Try.ntmps13
  go_wp2_with (refine wpList_load_range (by rfl) 33 _ rfl w.heap.size 0 rfl (At.rng HA1.out) Try.underlying33 rfl (info_ref rfl) ?_)
  refine (HF.out _).mono ?_
  rintro e W1 ⟨rfl, hb1⟩
  have HV := Lib.hid ((HA1.out.below hb1 HA1.out.lt).setRow (C := refV x0 (.slice a1 size c1) x2 x3 false fv))
  have HV0 := Lib.hid (HA1.out.below hb1 HA1.out.lt)
  have HR := Lib.hid ((HA2.out.below hb1 HA2.out.lt).setRow_other (g := w.heap.size) (C := refV x0 (.slice a1 size c1) x2 x3 false fv) (by omega))
  have HB1 := Lib.hid (below_setRow' (below_trans HB.out hb1 HB.out.size) (Nat.le_refl _) (refV x0 (.slice a1 size c1) x2 x3 false fv))
  clear hb1 HA1 HA2 HB HF c4
  obtain ⟨g, hg⟩ : ∃ g, w.heap.size = g := ⟨_, rfl⟩
  have HGE := Lib.hid hg
  rw [hg] at HV HV0 HR HB1 ⊢
  clear hg
  go_wp2_with (first
    | (refine wpList_store_row rfl 33 _ _ rfl g (refV x0 (.slice a1 size c1) x2 x3 false fv) rfl rfl _ _ HV0.out (info_ref rfl) rfl (HO1.out _) ?_
       clear HV0
       revert HB1; revert HR; revert HV
       generalize World.setRow _ _ _ = W2
       intro HV HR HB1
       have HBW := Lib.hid (show Below w.heap.size w W2 from by rw [HGE.out]; exact HB1.out)
       have d1 : (W2.alloc (.cells #[] 35)).cell? ⟨g, 1, none⟩ = some (.slice a1 size c1) := ((HV.out.alloc (.cells #[] 35)).cell 1).trans rfl)
    | (refine wpList_copy_sl (w := W2.alloc (.cells #[] 35)) (B := W2.heap.size) elt_p rfl _ _ rfl rfl (At.new W2 #[] 35) (Nat.le_refl _) rfl (HS.out.below (below_trans HBW.out ((Below.refl _ _).alloc (Nat.le_refl _) (.cells #[] 35)) HBW.out.size)) (by omega) ?_
       intro a' c' W3 h4 hb4 _
       have hb3 : Below W2.heap.size W2 W3 := Below.trans ((Below.refl W2.heap.size W2).alloc (Nat.le_refl _) (.cells #[] 35)) hb4
       have HV3 := Lib.hid (HV.out.below hb3 HV.out.lt)
       have HR3 := Lib.hid (HR.out.below hb3 HR.out.lt)
       have HB3 := Lib.hid (below_trans HB1.out hb3 (by have := HB1.out.size; have := HGE.out; omega))
       have HS3 := Lib.hid ((HS.out.below HBW.out).below hb3)
       have HN3 := Lib.hid (Els.slG h4 (G := Nw w 2 G) fun k hk _ => .inr (by have := HR.out.lt; have := HGE.out; omega))
       clear h4 hb4 hb3 HV HR HB1 HBW d1)
    | (refine wpList_store1 rfl 30 _ _ rfl (p := ⟨g, 0, none⟩) (v := .slice a' size c') rfl rfl (by kernel_rfl) rfl ((HV3.out.cell 0).trans rfl) (HV3.out.frozen 0) ?_
       have HV4 := Lib.hid (show At (W3.setCell ⟨g, 0, none⟩ (.slice a' size c')) g (refV (.slice a' size c') (.slice a1 size c1) x2 x3 false fv) 33 from HV3.out.setCell (i := 0) (v := .slice a' size c'))
       clear HV3)
    | (refine wpList_store1 rfl 31 _ _ rfl (p := ⟨g, 2, none⟩) (v := .slice none 0 0) rfl rfl (by kernel_rfl) rfl ((HV4.out.cell 2).trans rfl) (HV4.out.frozen 2) ?_
       have HV5 := Lib.hid (show At ((W3.setCell ⟨g, 0, none⟩ (.slice a' size c')).setCell ⟨g, 2, none⟩ (.slice none 0 0)) g (refV (.slice a' size c') (.slice a1 size c1) (.slice none 0 0) x3 false fv) 33 from HV4.out.setCell (i := 2) (v := .slice none 0 0))
       clear HV4)
    | (refine wpList_store1 rfl 30 _ _ rfl (p := ⟨g, 3, none⟩) (v := .slice none 0 0) rfl rfl (by kernel_rfl) rfl ((HV5.out.cell 3).trans rfl) (HV5.out.frozen 3) ?_
       have HV6 := Lib.hid (show At (((W3.setCell ⟨g, 0, none⟩ (.slice a' size c')).setCell ⟨g, 2, none⟩ (.slice none 0 0)).setCell ⟨g, 3, none⟩ (.slice none 0 0)) g (refV (.slice a' size c') (.slice a1 size c1) (.slice none 0 0) (.slice none 0 0) false fv) 33 from HV5.out.setCell (i := 3) (v := .slice none 0 0))
       have ne : ∀ k, Nw w 2 G k → k ≠ g := fun k hk => by have := Nw.ne HG.out (show 0 < 2 by omega) k hk; have := HGE.out; omega
       have HS6 := Lib.hid (((HS3.out.setCell (p := ⟨g, 0, none⟩) (.slice a' size c') ne).setCell (p := ⟨g, 2, none⟩) (.slice none 0 0) ne).setCell (p := ⟨g, 3, none⟩) (.slice none 0 0) ne)
       have HN6 := Lib.hid (((HN3.out.setCell (p := ⟨g, 0, none⟩) (.slice a' size c') ne).setCell (p := ⟨g, 2, none⟩) (.slice none 0 0) ne).setCell (p := ⟨g, 3, none⟩) (.slice none 0 0) ne)
       have HR6 := Lib.hid (((HR3.out.setCell_other (a := ⟨g, 0, none⟩) (v := .slice a' size c') (by simp)).setCell_other (a := ⟨g, 2, none⟩) (v := .slice none 0 0) (by simp)).setCell_other (a := ⟨g, 3, none⟩) (v := .slice none 0 0) (by simp))
       have HB6 := Lib.hid (((HB3.out.setCell (p := ⟨g, 0, none⟩) (Nat.le_refl _) (.slice a' size c')).setCell (p := ⟨g, 2, none⟩) (Nat.le_refl _) (.slice none 0 0)).setCell (p := ⟨g, 3, none⟩) (Nat.le_refl _) (.slice none 0 0))
       clear HV5 HS3 HN3 HR3 HB3 ne
       revert HB6; revert HR6; revert HN6; revert HS6; revert HV6
       generalize World.setCell _ _ _ = W6
       intro HV6 HS6 HN6 HR6 HB6)
    | refine wpList_load_range (by rfl) 33 _ rfl g 0 rfl (At.rng HV6.out) Try.underlying33 rfl (info_ref rfl) ?_
    | (refine wpList_store_row rfl 33 _ _ rfl (g + 1) (refV (.slice a' size c') (.slice a1 size c1) (.slice none 0 0) (.slice none 0 0) false fv) rfl rfl _ _ HR6.out (info_ref rfl) rfl (HO.out _ _ rfl) ?_
       have HR7 := Lib.hid (HR6.out.setRow (C := refV (.slice a' size c') (.slice a1 size c1) (.slice none 0 0) (.slice none 0 0) false fv))
       have ne : ∀ k, Nw w 2 G k → k ≠ g + 1 := fun k hk => by have := Nw.ne HG.out (show 1 < 2 by omega) k hk; have := HGE.out; omega
       have HX := Lib.hid (show RetK w G (fun x => .tuple #[x, .int .i64 0]) size 0 seen seen sec pg false fv (.returned (.tuple #[.agg (refV (.slice a' size c') (.slice a1 size c1) (.slice none 0 0) (.slice none 0 0) false fv), .int .i64 0])) (W6.setRow (g + 1) (refV (.slice a' size c') (.slice a1 size c1) (.slice none 0 0) (.slice none 0 0) false fv)) from
         ⟨_, rfl, by rw [HGE.out]; exact below_setRow' HB6.out (Nat.le_succ _) _, a', c', a1, c1, none, 0, none, 0, rfl, (HN6.out.setRow _ ne).sub (fun k hk hl => Nw.out k hk hl), (HS6.out.setRow _ ne).sub (fun k hk hl => Nw.out k hk hl), SlG.nil _ _ _ _, SlG.nil _ _ _ _⟩)
       clear ne HS6 HN6 HR6 HB6))
  exact bodyPost_ret (v := .tuple #[.agg (refV (.slice a' size c') (.slice a1 size c1) (.slice none 0 0) (.slice none 0 0) false fv), .int .i64 0]) (results_any_int rfl _ _ (g + 1) _ _ rfl rfl HR7.out Try.underlying33 rfl (info_ref rfl)) rfl HX.out
end Go.Proofs.Ytcahdjkmegnbfaa.Dk
