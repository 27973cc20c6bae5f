/- StateApart. Written by g30.py. -/
import Derived.Test.YtinbdkneakblfaaStS
set_option maxRecDepth 100000
set_option linter.unusedVariables false
namespace Go.Proofs.Ytinbdkneakblfaa.Sta
open Go.RowKit Go.Proofs.Ytinbdkneakblfaa.Row Go.Proofs.Ytinbdkneakblfaa.Md Go.Proofs.Ytinbdkneakblfaa.Tl

/-- A state with the Mem and the Last of another. -/
def laF (f g : Nat → Int) (k : Nat) : Int := if k = 16 then f 16 else over g f 0 16 k
theorem la_same (f g : Nat → Int) : ∀ i, i < 17 → f i = laF f g i := fun i hi => by
  unfold laF over
  by_cases c : i = 16
  · rw [if_pos c, c]
  · rw [if_neg c, if_pos (by omega)]; rfl
theorem la_other (f g : Nat → Int) (i : Nat) (hi : 17 ≤ i) : laF f g i = g i := by
  unfold laF over
  rw [if_neg (by omega), if_neg (by omega)]
theorem la_right {f g : Nat → Int} (hf : Rt f) (hg : Rt g) : Rt (laF f g) := by
  refine ⟨fun i hi => by rw [← la_same f g i (by omega)]; exact hf.1 i hi, by rw [← la_same f g 16 (by omega)]; exact hf.2.1, fun i hi => by rw [la_other _ _ _ (by omega)]; exact hg.2.2.1 i hi, fun i hi => ?_, by rw [la_other _ _ _ (by omega)]; exact hg.2.2.2.2⟩
  dsimp only
  rw [la_other _ _ _ (by omega)]
  exact hg.2.2.2.1 i hi

theorem Tri.setRow {w w1 : World} {T V U : Array Value} {t v u : TypeId} {b : Nat} (h : Tri w T V U t v u w1) (hb : w.heap.size + 1 + 1 < b) (C : Array Value) : Tri w T V U t v u (w1.setRow b C) :=
  ⟨below_setRow' h.1 (by omega) _, h.2.1.setRow_other (by omega), h.2.2.1.setRow_other (by omega), h.2.2.2.setRow_other (by omega)⟩
theorem Tri.setCell {w w1 : World} {T V U : Array Value} {t v u : TypeId} {b : Nat} (h : Tri w T V U t v u w1) (hb : w.heap.size + 1 + 1 < b) (i : Nat) (x : Value) : Tri w T V U t v u (w1.setCell ⟨b, i, none⟩ x) :=
  ⟨h.1.setCell (by dsimp only; omega) _, h.2.1.setCell_other (by dsimp only; omega), h.2.2.1.setCell_other (by dsimp only; omega), h.2.2.2.setCell_other (by dsimp only; omega)⟩

set_option maxHeartbeats 2000000 in
theorem stateApart_walk (T V U : Array Value) (f g u : Nat → Int) (hT : IsRow 38 f T) (hV : IsRow 38 g V) (hU : IsRow 16 u U) (w : World) :
    Calls Try.prog 7 #[.agg T, .agg V, .agg U] w fun e w' => e = .returned (.bool true) ∧ Below w.heap.size w w' := by
  obtain ⟨Zp, hZp, _, hzp, hip⟩ := zero_p
  obtain ⟨Zb, hZb, _, hzb, hib⟩ := zero_b
  obtain ⟨_, _, _, _, hi4⟩ := zero_4
  obtain ⟨_, _, _, _, hia⟩ := zero_a
  obtain ⟨Zr, hZr, _, hzr, hir⟩ := zero_r
  have HIP := Lib.hid hip
  have HIB := Lib.hid hib
  have HI4 := Lib.hid hi4
  have HIA := Lib.hid hia
  have HIR := Lib.hid hir
  have HT := Lib.hid hT
  have HV := Lib.hid hV
  have HU := Lib.hid hU
  have HZB := Lib.hid hZb.1
  have HZP := Lib.hid hZp.1
  have HZR := Lib.hid hZr.1
  obtain ⟨z, hz⟩ : ∃ z, g 37 = z := ⟨_, rfl⟩
  have HZ := Lib.hid hz
  have HW := Lib.hid (Tri.start w T V U 25 25 22)
  obtain ⟨r1, hr1⟩ : ∃ r : Bool, r = true ↔ Rt f := bool_of _
  obtain ⟨r2, hr2⟩ : ∃ r : Bool, r = true ↔ Rt g := bool_of _
  have HR1 := Lib.hid (fun w => refRight_any T f r1 w hT hr1)
  have HR2 := Lib.hid (fun w => refRight_any V g r2 w hV hr2)
  have HQ1 := Lib.hid hr1
  have HQ2 := Lib.hid hr2
  clear hT hV hU hip hib hi4 hia hir hZp hZb hZr hz hr1 hr2
  go_enter Try.func7, Try.ntmps7
  go_wp2_with fail
  revert HW
  generalize World.alloc _ _ = W
  intro HW
  refine (awake_as W).mono ?_
  rintro e W1 ⟨rfl, hb⟩
  replace HW := Lib.hid (HW.out.next hb)
  clear hb W
  go_wp2_with (refine wpList_load_all (by rfl) 25 _ rfl w.heap.size rfl HT.out HW.out.2.1 Try.underlying25 rfl HIR.out ?_)
  refine (HR1.out W1).mono ?_
  rintro e W ⟨rfl, hb⟩
  replace HW := Lib.hid (HW.out.next hb)
  clear hb W1 HR1
  cases r1
  · go_wp2_with fail
    refine (awake_as W).mono ?_
    rintro e W1 ⟨rfl, hb⟩
    replace HW := Lib.hid (HW.out.next hb)
    go_wp2_with fail
    go_ret
    exact ⟨rfl, HW.out.1⟩
  · go_wp2_with (refine wpList_load_all (by rfl) 25 _ rfl (w.heap.size + 1) rfl HV.out HW.out.2.2.1 Try.underlying25 rfl HIR.out ?_)
    refine (HR2.out W).mono ?_
    rintro e W1 ⟨rfl, hb⟩
    replace HW := Lib.hid (HW.out.next hb)
    clear hb W HR2
    cases r2
    · go_wp2_with fail
      refine (awake_as W1).mono ?_
      rintro e W2 ⟨rfl, hb⟩
      replace HW := Lib.hid (HW.out.next hb)
      go_wp2_with fail
      go_ret
      exact ⟨rfl, HW.out.1⟩
    · have HF := Lib.hid (HQ1.out.1 (by first | trivial | rfl))
      have HG := Lib.hid (HQ2.out.1 (by first | trivial | rfl))
      clear HQ1 HQ2
      obtain ⟨F4, hF4⟩ : ∃ M, IsRow 4 (fun i => f (17 + i)) M := ⟨_, isRow _ _⟩
      obtain ⟨V4, hV4⟩ : ∃ M, IsRow 4 (fun i => g (17 + i)) M := ⟨_, isRow _ _⟩
      obtain ⟨M, hM⟩ : ∃ M, IsRow 16 f M := ⟨_, isRow _ _⟩
      have HF4 := Lib.hid hF4
      have HV4 := Lib.hid hV4
      have HM := Lib.hid hM
      clear hF4 hV4 hM
      obtain ⟨l, hl⟩ : ∃ l, f 16 = l := ⟨_, rfl⟩
      have HL := Lib.hid hl
      clear hl
      -- the other state, with this one's Mem and Last
      go_wp2_with (first
        | refine wpList_load_all (by rfl) 25 _ rfl (w.heap.size + 1) rfl HV.out HW.out.2.2.1 Try.underlying25 rfl HIR.out ?_
        | (refine wpList_store_row rfl 25 _ _ rfl W1.heap.size V rfl rfl _ _ (heap_alloc_new _ _) (HIR.out _ HV.out.1) (by rw [HZR.out, HV.out.1]) HV.out.2.1 ?_
           rw [World.setRow_alloc_new]
           have HW2 := Lib.hid (HW.out.alloc (.cells V 25))
           have HP := Lib.hid (At.new W1 V 25)
           have hn1 := HW.out.2.2.2.lt
           obtain ⟨b, hbb⟩ : ∃ b, W1.heap.size = b := ⟨_, rfl⟩
           clear HW
           revert HW2 HP
           rw [hbb] at hn1 ⊢
           generalize W1.alloc _ = W
           intro HW2 HP
           clear hbb W1)
        | refine wpList_load_part (by rfl) 22 _ rfl w.heap.size 0 rfl HT.out HW2.out.2.1 HM.out (by omega) (fun i _ => by rw [Nat.zero_add]) Try.underlying22 rfl (HIA.out _ HM.out.1) ?_
        | (refine wpList_store_part rfl 22 _ _ rfl b 0 rfl rfl HV.out HP.out HM.out (by omega) (HIA.out _ HM.out.1) ?_
           intro C hC
           have HC := Lib.hid hC
           have HW := Lib.hid (HW2.out.setRow (b := b) (by omega) C)
           have HPC := Lib.hid (HP.out.setRow (C := C))
           clear hC HW2 HP
           revert HW HPC
           generalize World.setRow _ _ _ = W3
           intro HW HPC
           clear W
           have c16 := HT.out.cell HW.out.2.1 16 (by omega)
           rw [HL.out] at c16
           have cb := HC.out.cell HPC.out 16 (by omega)
           have fb := HPC.out.frozen 16
           clear HM))
      replace HW := Lib.hid (HW.out.setCell (b := b) (by omega) 16 (.int .i64 l))
      have PB := Lib.hid (HPC.out.setCell (i := 16) (v := .int .i64 l))
      have hX := HC.out.set l (show 16 < 38 by omega)
      obtain ⟨X, hXe⟩ : ∃ X, C.setIfInBounds 16 (.int .i64 l) = X := ⟨_, rfl⟩
      rw [hXe] at PB hX
      have HX := Lib.hid (hX.ext (g := laF f g) fun j _ => by unfold laF; rw [HL.out])
      clear hX hXe cb fb c16 HPC HC HL
      revert HW PB
      generalize World.setCell _ _ _ = W1
      intro HW PB
      clear W3
      have hz01 := HG.out.2.2.2.2
      rw [HZ.out] at hz01
      obtain ⟨R, Q, Q', h, q, q', hC, hC', hR, hQ, hQ', he, he'⟩ := next_pair (z := z) HT.out HX.out HV4.out HF4.out HU.out HF.out (la_right HF.out HG.out) HG.out HF.out hz01.1 hz01.2 (la_same f g)
      obtain ⟨QM, hQM⟩ : ∃ M, IsRow 16 q M := ⟨_, isRow _ _⟩
      obtain ⟨QW, hQW⟩ : ∃ M, IsRow 16 (fun k => q (21 + k)) M := ⟨_, isRow _ _⟩
      have HQM' := Lib.hid (hQM.ext (g := q') fun k hk => he k (by omega))
      have HQW' := Lib.hid (hQW.ext (g := fun k => q' (21 + k)) he')
      have HE := Lib.hid (he 16 (by omega))
      have HC := Lib.hid hC
      have HC' := Lib.hid hC'
      have HR := Lib.hid hR
      have HQ := Lib.hid hQ
      have HQ' := Lib.hid hQ'
      have HQM := Lib.hid hQM
      have HQW := Lib.hid hQW
      have e1 := rows_eq hR hR (fun _ _ => rfl) Try.underlying30
      have e2 := rows_eq hQM hQM (fun _ _ => rfl) Try.underlying30
      have e3 := rows_eq hQW hQW (fun _ _ => rfl) Try.underlying30
      clear hz01 hC hC' hR hQ hQ' he he' hQM hQW HF HG
      refine mv_start fun hS => ?_
      refine mv_yield (i := 0) (d := 33) (.agg T) rfl rfl (by kernel_rfl) (by kernel_rfl) (by kernel_rfl) hS (y_load_part (l := 0) (by rfl) rfl rfl HT.out (fun w' h => (HW.out.2.1).below h (HW.out.2.1).lt) HT.out (by omega) (fun i _ => by rw [Nat.zero_add]) Try.underlying25 rfl (HIR.out _ HT.out.1)) ?_
      simp only [Act.put, List.setIfInBounds_toArray, List.set_cons_zero, List.set_cons_succ]
      refine mv_yield (i := 2) (d := 35) (.pointer (some ⟨(w.heap.size + 1), 17, none⟩)) rfl rfl (by kernel_rfl) (by kernel_rfl) (by kernel_rfl) hS (y_field (by rfl) rfl rfl fld_r2) ?_
      simp only [Act.put, List.setIfInBounds_toArray, List.set_cons_zero, List.set_cons_succ]
      refine mv_yield (i := 3) (d := 36) (.agg V4) rfl rfl (by kernel_rfl) (by kernel_rfl) (by kernel_rfl) hS (y_load_part (l := 17) (by rfl) rfl rfl HV.out (fun w' h => (HW.out.2.2.1).below h (HW.out.2.2.1).lt) HV4.out (by omega) (fun i _ => rfl) Try.underlying23 rfl (HI4.out _ HV4.out.1)) ?_
      simp only [Act.put, List.setIfInBounds_toArray, List.set_cons_zero, List.set_cons_succ]
      refine mv_yield (i := 4) (d := 37) (.agg U) rfl rfl (by kernel_rfl) (by kernel_rfl) (by kernel_rfl) hS (y_load_part (l := 0) (by rfl) rfl rfl HU.out (fun w' h => (HW.out.2.2.2).below h (HW.out.2.2.2).lt) HU.out (by omega) (fun i _ => by rw [Nat.zero_add]) Try.underlying22 rfl (HIA.out _ HU.out.1)) ?_
      simp only [Act.put, List.setIfInBounds_toArray, List.set_cons_zero, List.set_cons_succ]
      refine parD0 (fuel := 2) [1, 5, 6, 7, 8, 9, 10] [1, 5, 6, 7, 9, 10] 8 (fun i => decide (9 ≤ i)) (fun i => if i = 1 then .agg T else if i = 5 then .tuple #[.agg R, .agg Q] else if i = 6 then .tuple #[.agg R, .agg Q] else if i = 7 then .agg R else .agg Q) (fun i => if i = 9 then Zb else Zp) (fun i => if i = 9 then 30 else 32) #[true, true, true, true, true, true, true, true, false, true, true, false, false] #[true, true, true, true, true, true, true, true, true, true, true, false, false] _ rfl (by decide) (by decide) (by decide) rfl (by kernel_rfl) (by kernel_rfl) (by kernel_rfl) (by decide) rfl rfl rfl (by kernel_rfl) (by kernel_rfl) (by kernel_rfl) (by kernel_rfl) (by kernel_rfl) (by kernel_rfl) hS ?_ ?_ ?_
      · intro i hi
        simp only [List.mem_cons, List.not_mem_nil, or_false] at hi
        rcases hi with rfl | rfl | rfl | rfl | rfl | rfl | rfl
        · exact ⟨_, rfl, fun D val w' hw' hD hv => st_call (isA := fun i => decide (9 ≤ i)) (V := fun i => if i = 1 then .agg T else if i = 5 then .tuple #[.agg R, .agg Q] else if i = 6 then .tuple #[.agg R, .agg Q] else if i = 7 then .agg R else .agg Q) (Zc := fun i => if i = 9 then Zb else Zp) (ty := fun i => if i = 9 then 30 else 32) (i := 1) #[.agg T] rfl rfl rfl enter_of (map1 (Eq.trans (part_other _ _ (by kernel_rfl)) rfl)) (of_as T f _ HT.out)⟩
        · exact ⟨_, rfl, fun D val w' hw' hD hv => st_call (isA := fun i => decide (9 ≤ i)) (V := fun i => if i = 1 then .agg T else if i = 5 then .tuple #[.agg R, .agg Q] else if i = 6 then .tuple #[.agg R, .agg Q] else if i = 7 then .agg R else .agg Q) (Zc := fun i => if i = 9 then Zb else Zp) (ty := fun i => if i = 9 then 30 else 32) (i := 5) #[.agg T, .agg V4, .agg U, .int .i64 0] rfl rfl rfl enter_next (map4 (Eq.trans (part_eval 1 rfl (hD 1 (by decide +kernel) (by decide)) _ _ rfl (by kernel_rfl) (by kernel_rfl)) (hv 1 (by decide) (hD 1 (by decide +kernel) (by decide)) rfl)) (Eq.trans (part_other _ _ (by kernel_rfl)) rfl) (Eq.trans (part_other _ _ (by kernel_rfl)) rfl) (rfl)) (HC.out _)⟩
        · exact ⟨_, rfl, fun D val w' hw' hD hv => st_run (isA := fun i => decide (9 ≤ i)) (V := fun i => if i = 1 then .agg T else if i = 5 then .tuple #[.agg R, .agg Q] else if i = 6 then .tuple #[.agg R, .agg Q] else if i = 7 then .agg R else .agg Q) (Zc := fun i => if i = 9 then Zb else Zp) (ty := fun i => if i = 9 then 30 else 32) (i := 6) (run_move rfl (Eq.trans (part_eval 5 rfl (hD 5 (by decide +kernel) (by decide)) _ _ rfl (by kernel_rfl) (by kernel_rfl)) (hv 5 (by decide) (hD 5 (by decide +kernel) (by decide)) rfl))) rfl rfl⟩
        · exact ⟨_, rfl, fun D val w' hw' hD hv => st_run (isA := fun i => decide (9 ≤ i)) (V := fun i => if i = 1 then .agg T else if i = 5 then .tuple #[.agg R, .agg Q] else if i = 6 then .tuple #[.agg R, .agg Q] else if i = 7 then .agg R else .agg Q) (Zc := fun i => if i = 9 then Zb else Zp) (ty := fun i => if i = 9 then 30 else 32) (i := 7) (run_extract rfl (Eq.trans (part_eval 6 rfl (hD 6 (by decide +kernel) (by decide)) _ _ rfl (by kernel_rfl) (by kernel_rfl)) (hv 6 (by decide) (hD 6 (by decide +kernel) (by decide)) rfl)) rfl) rfl rfl⟩
        · exact ⟨_, rfl, fun D val w' hw' hD hv => st_run (isA := fun i => decide (9 ≤ i)) (V := fun i => if i = 1 then .agg T else if i = 5 then .tuple #[.agg R, .agg Q] else if i = 6 then .tuple #[.agg R, .agg Q] else if i = 7 then .agg R else .agg Q) (Zc := fun i => if i = 9 then Zb else Zp) (ty := fun i => if i = 9 then 30 else 32) (i := 8) (run_extract rfl (Eq.trans (part_eval 6 rfl (hD 6 (by decide +kernel) (by decide)) _ _ rfl (by kernel_rfl) (by kernel_rfl)) (hv 6 (by decide) (hD 6 (by decide +kernel) (by decide)) rfl)) rfl) rfl rfl⟩
        · exact ⟨_, rfl, fun D val w' hw' hD hv => st_alloc (isA := fun i => decide (9 ≤ i)) (V := fun i => if i = 1 then .agg T else if i = 5 then .tuple #[.agg R, .agg Q] else if i = 6 then .tuple #[.agg R, .agg Q] else if i = 7 then .agg R else .agg Q) (Zc := fun i => if i = 9 then Zb else Zp) (ty := fun i => if i = 9 then 30 else 32) (i := 9) rfl rfl rfl rfl hzb⟩
        · exact ⟨_, rfl, fun D val w' hw' hD hv => st_alloc (isA := fun i => decide (9 ≤ i)) (V := fun i => if i = 1 then .agg T else if i = 5 then .tuple #[.agg R, .agg Q] else if i = 6 then .tuple #[.agg R, .agg Q] else if i = 7 then .agg R else .agg Q) (Zc := fun i => if i = 9 then Zb else Zp) (ty := fun i => if i = 9 then 30 else 32) (i := 10) rfl rfl rfl rfl hzp⟩
      · exact ⟨_, rfl, fun D val hD hv => y_of_run (by rfl) (fun w' => run_extract rfl (Eq.trans (part_eval 6 rfl (hD 6 (by decide +kernel) (by decide)) _ _ rfl (by kernel_rfl) (by kernel_rfl)) (hv 6 (by decide) (hD 6 (by decide +kernel) (by decide)) rfl)) rfl)⟩
      clear hS
      intro val w' hS hY hV
      have v1 : val 1 = .agg T := (hY 1 (by simp)).1 rfl
      have v5 : val 5 = .tuple #[.agg R, .agg Q] := (hY 5 (by simp)).1 rfl
      have v6 : val 6 = .tuple #[.agg R, .agg Q] := (hY 6 (by simp)).1 rfl
      have v7 : val 7 = .agg R := (hY 7 (by simp)).1 rfl
      have v8 : val 8 = .agg Q := (hY 8 (by simp)).1 rfl
      obtain ⟨b9, e9, a9, g9⟩ : ∃ b, val 9 = .pointer (some ⟨b, 0, none⟩) ∧ At w' b Zb 30 ∧ W1.heap.size ≤ b := (hY 9 (by simp)).2 rfl
      obtain ⟨b10, e10, a10, g10⟩ : ∃ b, val 10 = .pointer (some ⟨b, 0, none⟩) ∧ At w' b Zp 32 ∧ W1.heap.size ≤ b := (hY 10 (by simp)).2 rfl
      have n12 : b9 ≠ b10 := fun e => hV 9 (by simp) 10 (by simp) (by decide) rfl rfl (by rw [e9, e10, e])
      show wpAnyH _ _ _ _ _ _ _ (Act.put (Act.put (Act.put (Act.put (Act.put (Act.put (Act.put _ (some 34) (val 1)) (some 38) (val 5)) (some 32) (val 6)) (some 39) (val 7)) (some 40) (val 8)) (some 8) (val 9)) (some 9) (val 10)) _
      rw [v1, v5, v6, v7, v8, e9, e10]
      simp only [Act.put, List.setIfInBounds_toArray, List.set_cons_zero, List.set_cons_succ]
      clear hY hV v1 v5 v6 v7 v8 e9 e10
      refine mv_store (i := 11) b9 R _ rfl rfl (by kernel_rfl) (by rfl) rfl rfl rfl a9 (by rw [HZB.out, HR.out.1]) HR.out.2.1 (HIB.out _ HR.out.1) g9 hS (fun hS1 => ?_)
      refine mv_store (i := 12) b10 Q _ rfl rfl (by kernel_rfl) (by rfl) rfl rfl rfl (a10.setRow_other (Ne.symm n12)) (by rw [HZP.out, HQ.out.1]) HQ.out.2.1 (HIP.out _ HQ.out.1) g10 hS1 (fun hS2 => ?_)
      refine mv_done (by kernel_rfl) ?_
      have PX := Lib.hid ((a9.setRow (C := R)).setRow_other (C := Q) n12)
      have PY := Lib.hid ((a10.setRow_other (C := R) (Ne.symm n12)).setRow (C := Q))
      replace HW := Lib.hid (HW.out.next hS2)
      replace PB := Lib.hid (PB.out.below hS2 PB.out.lt)
      clear hS hS1 hS2 a9 a10 g9 g10 n12 HC
      revert HW PB PX PY
      generalize World.setRow _ _ _ = W2
      intro PX1 PY1 HW PB
      clear w' W1
      go_wp2_with fail
      refine mv_start fun hS => ?_
      refine mv_yield (i := 0) (d := 42) (.agg X) rfl rfl (by kernel_rfl) (by kernel_rfl) (by kernel_rfl) hS (y_load_part (l := 0) (by rfl) rfl rfl HX.out (fun w' h => (PB.out).below h (PB.out).lt) HX.out (by omega) (fun i _ => by rw [Nat.zero_add]) Try.underlying25 rfl (HIR.out _ HX.out.1)) ?_
      simp only [Act.put, List.setIfInBounds_toArray, List.set_cons_zero, List.set_cons_succ]
      refine mv_yield (i := 2) (d := 44) (.pointer (some ⟨w.heap.size, 17, none⟩)) rfl rfl (by kernel_rfl) (by kernel_rfl) (by kernel_rfl) hS (y_field (by rfl) rfl rfl fld_r2) ?_
      simp only [Act.put, List.setIfInBounds_toArray, List.set_cons_zero, List.set_cons_succ]
      refine mv_yield (i := 3) (d := 45) (.agg F4) rfl rfl (by kernel_rfl) (by kernel_rfl) (by kernel_rfl) hS (y_load_part (l := 17) (by rfl) rfl rfl HT.out (fun w' h => (HW.out.2.1).below h (HW.out.2.1).lt) HF4.out (by omega) (fun i _ => rfl) Try.underlying23 rfl (HI4.out _ HF4.out.1)) ?_
      simp only [Act.put, List.setIfInBounds_toArray, List.set_cons_zero, List.set_cons_succ]
      refine mv_yield (i := 4) (d := 46) (.agg U) rfl rfl (by kernel_rfl) (by kernel_rfl) (by kernel_rfl) hS (y_load_part (l := 0) (by rfl) rfl rfl HU.out (fun w' h => (HW.out.2.2.2).below h (HW.out.2.2.2).lt) HU.out (by omega) (fun i _ => by rw [Nat.zero_add]) Try.underlying22 rfl (HIA.out _ HU.out.1)) ?_
      simp only [Act.put, List.setIfInBounds_toArray, List.set_cons_zero, List.set_cons_succ]
      refine mv_yield (i := 5) (d := 47) (.pointer (some ⟨(w.heap.size + 1), 37, none⟩)) rfl rfl (by kernel_rfl) (by kernel_rfl) (by kernel_rfl) hS (y_field (by rfl) rfl rfl fld_r4) ?_
      simp only [Act.put, List.setIfInBounds_toArray, List.set_cons_zero, List.set_cons_succ]
      refine mv_yield (i := 6) (d := 48) (.int .i64 z) rfl rfl (by kernel_rfl) (by kernel_rfl) (by kernel_rfl) hS (y_cellS (by rfl) rfl rfl (fun w' h => HV.out.cell (HW.out.2.2.1.below h HW.out.2.2.1.lt) 37 (by omega) |>.trans (by rw [HZ.out]))) ?_
      simp only [Act.put, List.setIfInBounds_toArray, List.set_cons_zero, List.set_cons_succ]
      refine parD0 (fuel := 2) [1, 7, 8, 9, 10, 11, 12] [1, 7, 8, 9, 11, 12] 10 (fun i => decide (11 ≤ i)) (fun i => if i = 1 then .agg X else if i = 7 then .tuple #[.agg R, .agg Q'] else if i = 8 then .tuple #[.agg R, .agg Q'] else if i = 9 then .agg R else .agg Q') (fun i => if i = 11 then Zb else Zp) (fun i => if i = 11 then 30 else 32) #[true, true, true, true, true, true, true, true, true, true, false, true, true, false, false] #[true, true, true, true, true, true, true, true, true, true, true, true, true, false, false] _ rfl (by decide) (by decide) (by decide) rfl (by kernel_rfl) (by kernel_rfl) (by kernel_rfl) (by decide) rfl rfl rfl (by kernel_rfl) (by kernel_rfl) (by kernel_rfl) (by kernel_rfl) (by kernel_rfl) (by kernel_rfl) hS ?_ ?_ ?_
      · intro i hi
        simp only [List.mem_cons, List.not_mem_nil, or_false] at hi
        rcases hi with rfl | rfl | rfl | rfl | rfl | rfl | rfl
        · exact ⟨_, rfl, fun D val w' hw' hD hv => st_call (isA := fun i => decide (11 ≤ i)) (V := fun i => if i = 1 then .agg X else if i = 7 then .tuple #[.agg R, .agg Q'] else if i = 8 then .tuple #[.agg R, .agg Q'] else if i = 9 then .agg R else .agg Q') (Zc := fun i => if i = 11 then Zb else Zp) (ty := fun i => if i = 11 then 30 else 32) (i := 1) #[.agg X] rfl rfl rfl enter_of (map1 (Eq.trans (part_other _ _ (by kernel_rfl)) rfl)) (of_as X _ _ HX.out)⟩
        · exact ⟨_, rfl, fun D val w' hw' hD hv => st_call (isA := fun i => decide (11 ≤ i)) (V := fun i => if i = 1 then .agg X else if i = 7 then .tuple #[.agg R, .agg Q'] else if i = 8 then .tuple #[.agg R, .agg Q'] else if i = 9 then .agg R else .agg Q') (Zc := fun i => if i = 11 then Zb else Zp) (ty := fun i => if i = 11 then 30 else 32) (i := 7) #[.agg X, .agg F4, .agg U, .int .i64 z] rfl rfl rfl enter_next (map4 (Eq.trans (part_eval 1 rfl (hD 1 (by decide +kernel) (by decide)) _ _ rfl (by kernel_rfl) (by kernel_rfl)) (hv 1 (by decide) (hD 1 (by decide +kernel) (by decide)) rfl)) (Eq.trans (part_other _ _ (by kernel_rfl)) rfl) (Eq.trans (part_other _ _ (by kernel_rfl)) rfl) (Eq.trans (part_other _ _ (by kernel_rfl)) rfl)) (HC'.out _)⟩
        · exact ⟨_, rfl, fun D val w' hw' hD hv => st_run (isA := fun i => decide (11 ≤ i)) (V := fun i => if i = 1 then .agg X else if i = 7 then .tuple #[.agg R, .agg Q'] else if i = 8 then .tuple #[.agg R, .agg Q'] else if i = 9 then .agg R else .agg Q') (Zc := fun i => if i = 11 then Zb else Zp) (ty := fun i => if i = 11 then 30 else 32) (i := 8) (run_move rfl (Eq.trans (part_eval 7 rfl (hD 7 (by decide +kernel) (by decide)) _ _ rfl (by kernel_rfl) (by kernel_rfl)) (hv 7 (by decide) (hD 7 (by decide +kernel) (by decide)) rfl))) rfl rfl⟩
        · exact ⟨_, rfl, fun D val w' hw' hD hv => st_run (isA := fun i => decide (11 ≤ i)) (V := fun i => if i = 1 then .agg X else if i = 7 then .tuple #[.agg R, .agg Q'] else if i = 8 then .tuple #[.agg R, .agg Q'] else if i = 9 then .agg R else .agg Q') (Zc := fun i => if i = 11 then Zb else Zp) (ty := fun i => if i = 11 then 30 else 32) (i := 9) (run_extract rfl (Eq.trans (part_eval 8 rfl (hD 8 (by decide +kernel) (by decide)) _ _ rfl (by kernel_rfl) (by kernel_rfl)) (hv 8 (by decide) (hD 8 (by decide +kernel) (by decide)) rfl)) rfl) rfl rfl⟩
        · exact ⟨_, rfl, fun D val w' hw' hD hv => st_run (isA := fun i => decide (11 ≤ i)) (V := fun i => if i = 1 then .agg X else if i = 7 then .tuple #[.agg R, .agg Q'] else if i = 8 then .tuple #[.agg R, .agg Q'] else if i = 9 then .agg R else .agg Q') (Zc := fun i => if i = 11 then Zb else Zp) (ty := fun i => if i = 11 then 30 else 32) (i := 10) (run_extract rfl (Eq.trans (part_eval 8 rfl (hD 8 (by decide +kernel) (by decide)) _ _ rfl (by kernel_rfl) (by kernel_rfl)) (hv 8 (by decide) (hD 8 (by decide +kernel) (by decide)) rfl)) rfl) rfl rfl⟩
        · exact ⟨_, rfl, fun D val w' hw' hD hv => st_alloc (isA := fun i => decide (11 ≤ i)) (V := fun i => if i = 1 then .agg X else if i = 7 then .tuple #[.agg R, .agg Q'] else if i = 8 then .tuple #[.agg R, .agg Q'] else if i = 9 then .agg R else .agg Q') (Zc := fun i => if i = 11 then Zb else Zp) (ty := fun i => if i = 11 then 30 else 32) (i := 11) rfl rfl rfl rfl hzb⟩
        · exact ⟨_, rfl, fun D val w' hw' hD hv => st_alloc (isA := fun i => decide (11 ≤ i)) (V := fun i => if i = 1 then .agg X else if i = 7 then .tuple #[.agg R, .agg Q'] else if i = 8 then .tuple #[.agg R, .agg Q'] else if i = 9 then .agg R else .agg Q') (Zc := fun i => if i = 11 then Zb else Zp) (ty := fun i => if i = 11 then 30 else 32) (i := 12) rfl rfl rfl rfl hzp⟩
      · exact ⟨_, rfl, fun D val hD hv => y_of_run (by rfl) (fun w' => run_extract rfl (Eq.trans (part_eval 8 rfl (hD 8 (by decide +kernel) (by decide)) _ _ rfl (by kernel_rfl) (by kernel_rfl)) (hv 8 (by decide) (hD 8 (by decide +kernel) (by decide)) rfl)) rfl)⟩
      clear hS
      intro val w' hS hY hV
      have v1 : val 1 = .agg X := (hY 1 (by simp)).1 rfl
      have v7 : val 7 = .tuple #[.agg R, .agg Q'] := (hY 7 (by simp)).1 rfl
      have v8 : val 8 = .tuple #[.agg R, .agg Q'] := (hY 8 (by simp)).1 rfl
      have v9 : val 9 = .agg R := (hY 9 (by simp)).1 rfl
      have v10 : val 10 = .agg Q' := (hY 10 (by simp)).1 rfl
      obtain ⟨b11, e11, a11, g11⟩ : ∃ b, val 11 = .pointer (some ⟨b, 0, none⟩) ∧ At w' b Zb 30 ∧ W2.heap.size ≤ b := (hY 11 (by simp)).2 rfl
      obtain ⟨b12, e12, a12, g12⟩ : ∃ b, val 12 = .pointer (some ⟨b, 0, none⟩) ∧ At w' b Zp 32 ∧ W2.heap.size ≤ b := (hY 12 (by simp)).2 rfl
      have n12 : b11 ≠ b12 := fun e => hV 11 (by simp) 12 (by simp) (by decide) rfl rfl (by rw [e11, e12, e])
      show wpAnyH _ _ _ _ _ _ _ (Act.put (Act.put (Act.put (Act.put (Act.put (Act.put (Act.put _ (some 43) (val 1)) (some 49) (val 7)) (some 41) (val 8)) (some 50) (val 9)) (some 51) (val 10)) (some 10) (val 11)) (some 11) (val 12)) _
      rw [v1, v7, v8, v9, v10, e11, e12]
      simp only [Act.put, List.setIfInBounds_toArray, List.set_cons_zero, List.set_cons_succ]
      clear hY hV v1 v7 v8 v9 v10 e11 e12
      refine mv_store (i := 13) b11 R _ rfl rfl (by kernel_rfl) (by rfl) rfl rfl rfl a11 (by rw [HZB.out, HR.out.1]) HR.out.2.1 (HIB.out _ HR.out.1) g11 hS (fun hS1 => ?_)
      refine mv_store (i := 14) b12 Q' _ rfl rfl (by kernel_rfl) (by rfl) rfl rfl rfl (a12.setRow_other (Ne.symm n12)) (by rw [HZP.out, HQ'.out.1]) HQ'.out.2.1 (HIP.out _ HQ'.out.1) g12 hS1 (fun hS2 => ?_)
      refine mv_done (by kernel_rfl) ?_
      have PX := Lib.hid ((a11.setRow (C := R)).setRow_other (C := Q') n12)
      have PY := Lib.hid ((a12.setRow_other (C := R) (Ne.symm n12)).setRow (C := Q'))
      have HB := Lib.hid (below_trans HW.out.1 hS2 HW.out.1.size)
      have PX3 := Lib.hid (PX1.out.below hS2 PX1.out.lt)
      have PY3 := Lib.hid (PY1.out.below hS2 PY1.out.lt)
      clear hS hS1 hS2 a11 a12 g11 g12 n12 HC' HW PB PX1 PY1 HT HV HU HX HF4 HV4
      revert HB PX3 PY3 PX PY
      generalize World.setRow _ _ _ = W3
      intro PX PY HB PX3 PY3
      clear w' W2
      obtain ⟨m, hm⟩ : ∃ m, q 16 = m := ⟨_, rfl⟩
      have c1 := HQ.out.cell PY3.out 16 (by omega)
      have c2 := HQ'.out.cell PY.out 16 (by omega)
      rw [hm] at c1
      rw [← HE.out, hm] at c2
      clear hm HE
      go_wp2_with (first
        | refine wpList_load_all (by rfl) 30 _ rfl b9 rfl HR.out PX3.out Try.underlying30 rfl HIB.out ?_
        | refine wpList_load_all (by rfl) 30 _ rfl b11 rfl HR.out PX.out Try.underlying30 rfl HIB.out ?_
        | refine wpList_load_part (by rfl) 30 _ rfl b10 0 rfl HQ.out PY3.out HQM.out (by omega) (fun i _ => by rw [Nat.zero_add]) Try.underlying30 rfl (HIB.out _ HQM.out.1) ?_
        | refine wpList_load_part (by rfl) 30 _ rfl b12 0 rfl HQ'.out PY.out HQM'.out (by omega) (fun i _ => by rw [Nat.zero_add]) Try.underlying30 rfl (HIB.out _ HQM.out.1) ?_
        | refine wpList_load_part (by rfl) 30 _ rfl b10 21 rfl HQ.out PY3.out HQW.out (by omega) (fun i _ => rfl) Try.underlying30 rfl (HIB.out _ HQW.out.1) ?_
        | refine wpList_load_part (by rfl) 30 _ rfl b12 21 rfl HQ'.out PY.out HQW'.out (by omega) (fun i _ => rfl) Try.underlying30 rfl (HIB.out _ HQW.out.1) ?_)
      go_ret
      exact ⟨rfl, HB.out⟩
end Go.Proofs.Ytinbdkneakblfaa.Sta
