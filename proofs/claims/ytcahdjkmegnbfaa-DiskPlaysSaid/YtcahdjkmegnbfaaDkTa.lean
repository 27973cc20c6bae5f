/- The document's Write refused; an empty slice written out; fields of the document's disk. -/
import Derived.Test.YtcahdjkmegnbfaaDkS
set_option maxRecDepth 100000
set_option linter.unusedVariables false
set_option linter.unusedSimpArgs false
namespace Go.Proofs.Ytcahdjkmegnbfaa.Dk
open Go.RowKit Go.Proofs.Ytcahdjkmegnbfaa.Row

/-- Three values in new blocks. -/
theorem three_new (w : World) (V P Z : Array Value) (t u : TypeId) : At (((w.alloc (.cells V t)).alloc (.cells P u)).alloc (.cells Z t)) w.heap.size V t ∧ At (((w.alloc (.cells V t)).alloc (.cells P u)).alloc (.cells Z t)) (w.heap.size + 1) P u ∧
    At (((w.alloc (.cells V t)).alloc (.cells P u)).alloc (.cells Z t)) (w.heap.size + 2) Z t ∧ Below w.heap.size w (((w.alloc (.cells V t)).alloc (.cells P u)).alloc (.cells Z t)) := by
  have h2 := At.new (w.alloc (.cells V t)) P u
  have h3 := At.new ((w.alloc (.cells V t)).alloc (.cells P u)) Z t
  rw [World.size_alloc] at h2
  rw [World.size_alloc, World.size_alloc] at h3
  exact ⟨((At.new w V t).alloc _).alloc _, h2.alloc _, h3, (((Below.refl w.heap.size w).alloc (Nat.le_refl _) _).alloc (by simp) _).alloc (by rw [World.size_alloc, World.size_alloc]; omega) _⟩
theorem refWrite_down (w : World) (a0 : Option Addr) (size c0 : Nat) (x1 x2 x3 : Value) (h1 : x1.oneCell' = true) (h2 : x2.oneCell' = true) (h3 : x3.oneCell' = true) (fu : Int) (i : Int) (P : Array Value)  :
    Calls Try.prog 19 #[.agg (refV (.slice a0 size c0) x1 x2 x3 true fu), .int .i64 i, .agg P] w fun e w' => e = .returned (.tuple #[.agg (refV (.slice a0 size c0) x1 x2 x3 true fu), .int .i64 7]) ∧ Below w.heap.size w w' := by
  have hz := zero_ref
  obtain ⟨hA1, hAp, hA2, hb⟩ := three_new w (refV (.slice a0 size c0) x1 x2 x3 true fu) P zR 33 35
  have HA1 := Lib.hid hA1
  have HA2 := Lib.hid hA2
  have HB := Lib.hid hb
  have HO := Lib.hid (refV_one (.slice a0 size c0) x1 x2 x3 true fu rfl h1 h2 h3)
  have c4 : _ = some (Value.bool true) := (hA1.cell 4).trans rfl
  have c0' : _ = some (Value.slice a0 size c0) := (hA1.cell 0).trans rfl
  clear hA1 hAp hA2 hb h1 h2 h3
  go_enter Try.func19, Try.ntmps19
  go_wp2_with (first
    | refine wpList_load_range (by rfl) 33 _ rfl w.heap.size 0 rfl (At.rng HA1.out) Try.underlying33 rfl (info_ref rfl) ?_
    | (refine wpList_store_row rfl 33 _ _ rfl (w.heap.size + 2) (refV (.slice a0 size c0) x1 x2 x3 true fu) rfl rfl _ _ HA2.out (info_ref rfl) rfl HO.out ?_
       have HR2 := Lib.hid (HA2.out.setRow (C := refV (.slice a0 size c0) x1 x2 x3 true fu))
       have HBB := Lib.hid (below_setRow' HB.out (by omega : w.heap.size ≤ w.heap.size + 2) (refV (.slice a0 size c0) x1 x2 x3 true fu))))
  exact bodyPost_ret (v := .tuple #[.agg (refV (.slice a0 size c0) x1 x2 x3 true fu), .int .i64 7]) (results_any_int rfl _ _ (w.heap.size + 2) _ _ rfl rfl HR2.out Try.underlying33 rfl (info_ref rfl)) rfl ⟨rfl, HBB.out⟩
theorem refWrite_out (w : World) (a0 : Option Addr) (size c0 : Nat) (x1 x2 x3 : Value) (h1 : x1.oneCell' = true) (h2 : x2.oneCell' = true) (h3 : x3.oneCell' = true) (fu : Int) (i : Int) (P : Array Value) (hi : i < 0 ∨ (size : Int) ≤ i) :
    Calls Try.prog 19 #[.agg (refV (.slice a0 size c0) x1 x2 x3 false fu), .int .i64 i, .agg P] w fun e w' => e = .returned (.tuple #[.agg (refV (.slice a0 size c0) x1 x2 x3 false fu), .int .i64 1]) ∧ Below w.heap.size w w' := by
  have hz := zero_ref
  obtain ⟨hA1, hAp, hA2, hb⟩ := three_new w (refV (.slice a0 size c0) x1 x2 x3 false fu) P zR 33 35
  have HA1 := Lib.hid hA1
  have HA2 := Lib.hid hA2
  have HB := Lib.hid hb
  have HO := Lib.hid (refV_one (.slice a0 size c0) x1 x2 x3 false fu rfl h1 h2 h3)
  have c4 : _ = some (Value.bool false) := (hA1.cell 4).trans rfl
  have c0' : _ = some (Value.slice a0 size c0) := (hA1.cell 0).trans rfl
  clear hA1 hAp hA2 hb h1 h2 h3
  rcases hi with hi | hi
  · go_enter Try.func19, Try.ntmps19
    go_wp2_with (first
      | refine wpList_load_range (by rfl) 33 _ rfl w.heap.size 0 rfl (At.rng HA1.out) Try.underlying33 rfl (info_ref rfl) ?_
      | (refine wpList_store_row rfl 33 _ _ rfl (w.heap.size + 2) (refV (.slice a0 size c0) x1 x2 x3 false fu) rfl rfl _ _ HA2.out (info_ref rfl) rfl HO.out ?_
         have HR2 := Lib.hid (HA2.out.setRow (C := refV (.slice a0 size c0) x1 x2 x3 false fu))
         have HBB := Lib.hid (below_setRow' HB.out (by omega : w.heap.size ≤ w.heap.size + 2) (refV (.slice a0 size c0) x1 x2 x3 false fu))))
    exact bodyPost_ret (v := .tuple #[.agg (refV (.slice a0 size c0) x1 x2 x3 false fu), .int .i64 1]) (results_any_int rfl _ _ (w.heap.size + 2) _ _ rfl rfl HR2.out Try.underlying33 rfl (info_ref rfl)) rfl ⟨rfl, HBB.out⟩
  · have hi0 : ¬ i < 0 := by omega
    have hi1 : (i : Int) ≥ size := hi
    go_enter Try.func19, Try.ntmps19
    go_wp2_with (first
      | refine wpList_load_range (by rfl) 33 _ rfl w.heap.size 0 rfl (At.rng HA1.out) Try.underlying33 rfl (info_ref rfl) ?_
      | (refine wpList_store_row rfl 33 _ _ rfl (w.heap.size + 2) (refV (.slice a0 size c0) x1 x2 x3 false fu) rfl rfl _ _ HA2.out (info_ref rfl) rfl HO.out ?_
         have HR2 := Lib.hid (HA2.out.setRow (C := refV (.slice a0 size c0) x1 x2 x3 false fu))
         have HBB := Lib.hid (below_setRow' HB.out (by omega : w.heap.size ≤ w.heap.size + 2) (refV (.slice a0 size c0) x1 x2 x3 false fu))))
    exact bodyPost_ret (v := .tuple #[.agg (refV (.slice a0 size c0) x1 x2 x3 false fu), .int .i64 1]) (results_any_int rfl _ _ (w.heap.size + 2) _ _ rfl rfl HR2.out Try.underlying33 rfl (info_ref rfl)) rfl ⟨rfl, HBB.out⟩
theorem refWrite_burnt (w : World) (a0 : Option Addr) (size c0 : Nat) (x1 x2 x3 : Value) (h1 : x1.oneCell' = true) (h2 : x2.oneCell' = true) (h3 : x3.oneCell' = true) (i : Int) (P : Array Value) (hi0 : 0 ≤ i) (hi1 : i < (size : Int)) :
    Calls Try.prog 19 #[.agg (refV (.slice a0 size c0) x1 x2 x3 false 0), .int .i64 i, .agg P] w fun e w' => e = .returned (.tuple #[.agg (refV (.slice a0 size c0) x1 x2 x3 false 0), .int .i64 6]) ∧ Below w.heap.size w w' := by
  have hz := zero_ref
  obtain ⟨hA1, hAp, hA2, hb⟩ := three_new w (refV (.slice a0 size c0) x1 x2 x3 false 0) P zR 33 35
  have HA1 := Lib.hid hA1
  have HA2 := Lib.hid hA2
  have HB := Lib.hid hb
  have HO := Lib.hid (refV_one (.slice a0 size c0) x1 x2 x3 false 0 rfl h1 h2 h3)
  have HF := Lib.hid (fun w => fused_as w (.slice a0 size c0) x1 x2 x3 rfl h1 h2 h3 false 0 (by decide))
  have c4 : _ = some (Value.bool false) := (hA1.cell 4).trans rfl
  have c0' : _ = some (Value.slice a0 size c0) := (hA1.cell 0).trans rfl
  clear hA1 hAp hA2 hb h1 h2 h3
  have j0 : ¬ i < 0 := by omega
  have j1 : ¬ (size : Int) ≤ i := by omega
  go_enter Try.func19, Try.ntmps19
  go_wp2_with (refine wpList_load_range (by rfl) 33 _ rfl w.heap.size 0 rfl (At.rng HA1.out) Try.underlying33 rfl (info_ref rfl) ?_)
  refine (HF.out _).mono ?_
  rintro e W1 ⟨rfl, hb1⟩
  have HV := Lib.hid (HA1.out.below hb1 HA1.out.lt)
  have HR := Lib.hid (HA2.out.below hb1 HA2.out.lt)
  have HB1 := Lib.hid (below_trans HB.out hb1 HB.out.size)
  rw [if_neg (by omega)]
  clear hb1 HA1 HA2 HB HF c4 c0'
  go_wp2_with (first
    | (refine wpList_store_row rfl 33 _ _ rfl w.heap.size (refV (.slice a0 size c0) x1 x2 x3 false 0) rfl rfl _ _ HV.out (info_ref rfl) rfl HO.out ?_
       rw [Row.setRow_self HV.out])
    | refine wpList_load_range (by rfl) 33 _ rfl w.heap.size 0 rfl (At.rng HV.out) Try.underlying33 rfl (info_ref rfl) ?_
    | (refine wpList_store_row rfl 33 _ _ rfl (w.heap.size + 2) (refV (.slice a0 size c0) x1 x2 x3 false 0) rfl rfl _ _ HR.out (info_ref rfl) rfl HO.out ?_
       have HR2 := Lib.hid (HR.out.setRow (C := refV (.slice a0 size c0) x1 x2 x3 false 0))
       have HBB := Lib.hid (below_setRow' HB1.out (by omega : w.heap.size ≤ w.heap.size + 2) (refV (.slice a0 size c0) x1 x2 x3 false 0))))
  exact bodyPost_ret (v := .tuple #[.agg (refV (.slice a0 size c0) x1 x2 x3 false 0), .int .i64 6]) (results_any_int rfl _ _ (w.heap.size + 2) _ _ rfl rfl HR2.out Try.underlying33 rfl (info_ref rfl)) rfl ⟨rfl, HBB.out⟩

/-- '[]T{}'. -/
theorem wpList_slice_nil {ops : Array Oper} {rest : List Oper} {o : Oper} {ac : Act} {Q : Exit → Act → World → Prop} {w : World} {ts te : TypeId} {m by_ : Nat} {Z : Array Value} (T : ElT ts te m by_ Z) (hgd : o.guard = none) (ho : o.op = .buildSlice ts 0 #[])
    (h : wpList Try.prog ops Q rest (ac.put o.dst (.slice (some ⟨w.heap.size, 0, none⟩) 0 0)) (w.alloc (.cells #[] te))) : wpList Try.prog ops Q (o :: rest) ac w := by
  refine wpList_plain hgd fun K hK => ?_
  obtain ⟨i, z, hi, hz, hzc, hsz, hby⟩ := T.info
  have hs : ∀ w, (sizeOf te).run Try.prog w = .ok m w := fun w => by simp [sizeOf, typeInfo, hi, hsz]
  have hr : (Instr.buildSlice ts 0 #[]).run Try.prog w = .ok (.slice (some ⟨w.heap.size, 0, none⟩) 0 0) (w.alloc (.cells #[] te)) := by
    unfold Instr.buildSlice
    simp [Sem.run_bind, run_underlying T.hu, hs, Instr.fill]
    rw [show Array.map (fun _ => (default : Value)) (Array.range 0) = #[] from Array.eq_empty_of_size_eq_zero (by simp)]
    rfl
  unfold Oper.wp execOp
  simp only [ho, List.map_toArray, Array.map_empty, List.map_nil, hr, Sem.run_bind, Result.andThen_ok, Sem.run_pure]
  exact hK _ _ h
theorem Els.there {w : World} {B : Nat} {te : TypeId} {m n c g k : Nat} {F : Nat → Array Value} (h : Els w B te m (some ⟨g, 0, none⟩) n c F) (hk : k < n) : w.there g (k * m) m := fun q hq => by
  have hr := h.range hk
  have hs := (h.1 k hk).1
  obtain ⟨v, hv⟩ : ∃ v, (F k).toList[q]? = some v := ⟨_, List.getElem?_eq_getElem (by rw [Array.length_toList, hs]; exact hq)⟩
  refine ⟨by rw [hr q v hv]; rfl, ?_⟩
  obtain ⟨_, _, ⟨e, _⟩ | ⟨g', cap, cur, e, _, h4, _⟩⟩ := h
  · cases e
  · simp only [Value.slice.injEq, Option.some.injEq, Addr.mk.injEq] at e
    obtain ⟨⟨rfl, _⟩, _⟩ := e
    exact frozen_of_row _ _ _ _ _ h4
theorem fld_r3 : FldO 33 3 3 := fldO Try.underlying33 rfl rfl (s := 1) (by kernel_rfl) (by omega)
theorem fld_r2 : FldO 33 2 2 := fldO Try.underlying33 rfl rfl (s := 1) (by kernel_rfl) (by omega)
theorem fld_r5 : FldO 33 5 5 := fldO Try.underlying33 rfl rfl (s := 1) (by kernel_rfl) (by omega)
theorem one_int (i : Int) : (#[Value.int .i64 i]).all (·.oneCell') = true := by simp [Value.oneCell']end Go.Proofs.Ytcahdjkmegnbfaa.Dk
