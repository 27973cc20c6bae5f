/- Contract: lost.Lose. Written by g36.py. -/
import Derived.Test.YtfpmajlgbipbmaaLoA
import Derived.Test.YtfpmajlgbipbmaaRowMvY
set_option maxRecDepth 100000
set_option linter.unusedVariables false
namespace Go.Proofs.Ytfpmajlgbipbmaa.Lo
open Go.RowKit Go.Proofs.Ytfpmajlgbipbmaa.Row Go.Proofs.Ytfpmajlgbipbmaa.Md Go.Proofs.Ytfpmajlgbipbmaa.Tl Go.Proofs.Ytfpmajlgbipbmaa.Sta

theorem run_min2 (x y u : Int) (h : min x y = u) (w : World) : (Builtin.min_ #[3, 3] 3 #[.int .i64 x, .int .i64 y]).run Try.prog w = .ok (.int .i64 u) w := by
  have e : (if y < x then y else x) = u := by rw [← h]; split <;> omega
  rw [← e]
  simp [Builtin.min_, Builtin.min2]
theorem y_min {ops : Array Oper} {S : World → Prop} {a : Act} {oi : Oper} {y z : Operand} {m n r : Int} (hw : Region.wanted oi (yielded ops a.tmps) = true) (ho : oi.op = .call { callee := .builtin .min, args := #[y, z], argTypes := #[3, 3] }) (ht : oi.type = 3) (hy : a.eval y = .int .i64 m) (hz : a.eval z = .int .i64 n) (hr : min m n = r) : YieldsIf Try.prog ops S oi (.int .i64 r) a :=
  y_run hw fun w => by
    have h := run_min2 m n r hr w
    unfold execOp
    simp only [ho, ht, resolve, invoke, builtin, Sem.run_bind, Sem.run_pure, Result.andThen_ok, List.map_toArray, List.map_cons, List.map_nil, hy, hz, h]

theorem fld_p2 : FldAt 31 2 17 := fun b w => by
  unfold Instr.fieldAt
  simp [Sem.run_bind, run_underlying Try.underlying31, Instr.sureAddr, go_sem, Addr.add]
theorem fld_p3 : FldAt 31 3 21 := fun b w => by
  unfold Instr.fieldAt
  simp [Sem.run_bind, run_underlying Try.underlying31, Instr.sureAddr, go_sem, Addr.add]
theorem fld_p4 : FldAt 31 4 37 := fun b w => by
  unfold Instr.fieldAt
  simp [Sem.run_bind, run_underlying Try.underlying31, Instr.sureAddr, go_sem, Addr.add]
theorem enter_lowered (args : Array Value) (w : World) : (callFunc 18 args).run Try.prog w = .ok (.enter 18 args) w := run_enter Try.func18 (by kernel_rfl) rfl args w
theorem enter_halved (args : Array Value) (w : World) : (callFunc 19 args).run Try.prog w = .ok (.enter 19 args) w := run_enter Try.func19 (by kernel_rfl) rfl args w

/-- A state that came in, a block and a state of one's own behind it. -/
def Los (w : World) (T : Array Value) (w' : World) : Prop := ∃ A B : Array Value, A.size = 16 ∧ B.size = 38 ∧ Tri w T A B 31 29 31 w'
theorem Los.atT {w w' : World} {T : Array Value} (h : Los w T w') : At w' w.heap.size T 31 := by
  obtain ⟨_, _, _, _, h⟩ := h; exact h.2.1
theorem Los.next {w w1 w2 : World} {T : Array Value} (h : Los w T w1) (hb : Below w1.heap.size w1 w2) : Los w T w2 := by
  obtain ⟨A, B, h1, h2, h⟩ := h; exact ⟨A, B, h1, h2, h.next hb⟩
theorem Los.setA {w w1 : World} {T R : Array Value} (h : Los w T w1) (hR : R.size = 16) : Los w T (w1.setRow (w.heap.size + 1) R) := by
  obtain ⟨A, B, h1, h2, h3, h4, h5, h6⟩ := h
  exact ⟨R, B, hR, h2, below_setRow' h3 (by omega) _, h4.setRow_other (by omega), h5.setRow, h6.setRow_other (by omega)⟩
theorem Los.setB {w w1 : World} {T R : Array Value} (h : Los w T w1) (hR : R.size = 38) : Los w T (w1.setRow (w.heap.size + 1 + 1) R) := by
  obtain ⟨A, B, h1, h2, h3, h4, h5, h6⟩ := h
  exact ⟨A, R, h1, hR, below_setRow' h3 (by omega) _, h4.setRow_other (by omega), h5.setRow_other (by omega), h6.setRow⟩

set_option maxHeartbeats 2000000 in
theorem lose_of {T V U R Q : Array Value} {f h g : Nat → Int} {z : Int} (hT : IsRow 38 f T) (hV : rowL 4 (vF f) 4 = V) (hU : rowL 16 (uF f) 16 = U) (hz : min (IntKind.i64.wrap (f 37 + 1)) 255 = z)
    (hC : ∀ w, Calls Try.prog 17 #[.agg T, .agg V, .agg U, .int .i64 z] w fun e w' => e = .returned (.tuple #[.agg R, .agg Q]) ∧ Below w.heap.size w w') (hR : IsRow 16 h R) (hQ : IsRow 38 g Q) (w : World) :
    Calls Try.prog 12 #[.agg T] w fun e w' => e = .returned (.tuple #[.agg R, .agg Q]) ∧ Below w.heap.size w w' := by
  obtain ⟨Zp, hZp, _, hzp, hip⟩ := zero_p
  obtain ⟨Zb, hZb, _, hzb, hib⟩ := zero_b
  obtain ⟨_, _, _, _, hi4⟩ := zero_4
  obtain ⟨VV, hVV⟩ : ∃ X, T.extract 17 (17 + 4) = X := ⟨_, rfl⟩
  obtain ⟨UU, hUU⟩ : ∃ X, T.extract 21 (21 + 16) = X := ⟨_, rfl⟩
  have hVV' := hT.sub (show 17 + 4 ≤ 38 by omega)
  have hUU' := hT.sub (show 21 + 16 ≤ 38 by omega)
  rw [hVV] at hVV'
  rw [hUU] at hUU'
  obtain ⟨l, hl⟩ : ∃ l, f 37 = l := ⟨_, rfl⟩
  have hlw := fun w => lowered_any VV _ w hVV'
  have hhv := fun w => halved_any UU _ l w hUU'
  change ∀ w, Calls _ _ _ w fun e w' => e = .returned (.agg (rowL 4 (vF f) 4)) ∧ _ at hlw
  rw [hV] at hlw
  rw [← hl] at hhv
  change ∀ w, Calls _ _ _ w fun e w' => e = .returned (.agg (rowL 16 (uF f) 16)) ∧ _ at hhv
  rw [hU, hl] at hhv
  rw [hl] at hz
  have HLW := Lib.hid hlw
  have HHV := Lib.hid hhv
  have HC := Lib.hid hC
  have HL := Lib.hid hl
  have HZ := Lib.hid hz
  have HT := Lib.hid hT
  have HVV := Lib.hid hVV'
  have HUU := Lib.hid hUU'
  have HIP := Lib.hid hip
  have HIB := Lib.hid hib
  have HI4 := Lib.hid hi4
  have HR := Lib.hid hR
  have HQ := Lib.hid hQ
  have HW := Lib.hid (show Los w T _ from ⟨Zb, Zp, hZb.1, hZp.1, Tri.start w T Zb Zp 31 29 31⟩)
  clear hT hV hU hz hC hR hQ hip hib hi4 hVV hUU hVV' hUU' hl hlw hhv hZb hZp
  go_enter Try.func12, Try.ntmps12
  go_wp2_with fail
  revert HW
  generalize World.alloc _ _ = W
  intro HW
  refine mv_startS (Los w T) (HW.out.next ((Below.refl _ _).drew)) fun hS => ?_
  refine mv_yield (i := 1) (d := 5) (.pointer (some ⟨w.heap.size, 17, none⟩)) rfl rfl (by kernel_rfl) (by kernel_rfl) (by kernel_rfl) hS (y_field (by rfl) rfl rfl fld_p2) ?_
  simp only [Act.put, List.setIfInBounds_toArray, List.set_cons_zero, List.set_cons_succ]
  refine mv_yield (i := 2) (d := 6) (.agg VV) rfl rfl (by kernel_rfl) (by kernel_rfl) (by kernel_rfl) hS (y_load_part (l := 17) (by rfl) rfl rfl HT.out (fun w' h => h.atT) HVV.out (by omega) (fun i _ => rfl) Try.underlying23 rfl (HI4.out _ HVV.out.1)) ?_
  simp only [Act.put, List.setIfInBounds_toArray, List.set_cons_zero, List.set_cons_succ]
  refine mv_yield (i := 4) (d := 8) (.pointer (some ⟨w.heap.size, 21, none⟩)) rfl rfl (by kernel_rfl) (by kernel_rfl) (by kernel_rfl) hS (y_field (by rfl) rfl rfl fld_p3) ?_
  simp only [Act.put, List.setIfInBounds_toArray, List.set_cons_zero, List.set_cons_succ]
  refine mv_yield (i := 5) (d := 9) (.agg UU) rfl rfl (by kernel_rfl) (by kernel_rfl) (by kernel_rfl) hS (y_load_part (l := 21) (by rfl) rfl rfl HT.out (fun w' h => h.atT) HUU.out (by omega) (fun i _ => rfl) Try.underlying29 rfl (HIB.out _ HUU.out.1)) ?_
  simp only [Act.put, List.setIfInBounds_toArray, List.set_cons_zero, List.set_cons_succ]
  refine mv_yield (i := 6) (d := 10) (.pointer (some ⟨w.heap.size, 37, none⟩)) rfl rfl (by kernel_rfl) (by kernel_rfl) (by kernel_rfl) hS (y_field (by rfl) rfl rfl fld_p4) ?_
  simp only [Act.put, List.setIfInBounds_toArray, List.set_cons_zero, List.set_cons_succ]
  refine mv_yield (i := 7) (d := 11) (.int .i64 l) rfl rfl (by kernel_rfl) (by kernel_rfl) (by kernel_rfl) hS (y_cellS (by rfl) rfl rfl (fun w' h => by have := HT.out.cell h.atT 37 (by omega); rw [HL.out] at this; exact this)) ?_
  simp only [Act.put, List.setIfInBounds_toArray, List.set_cons_zero, List.set_cons_succ]
  refine mv_yield (i := 9) (d := 13) (.pointer (some ⟨w.heap.size, 37, none⟩)) rfl rfl (by kernel_rfl) (by kernel_rfl) (by kernel_rfl) hS (y_field (by rfl) rfl rfl fld_p4) ?_
  simp only [Act.put, List.setIfInBounds_toArray, List.set_cons_zero, List.set_cons_succ]
  refine mv_yield (i := 10) (d := 14) (.int .i64 l) rfl rfl (by kernel_rfl) (by kernel_rfl) (by kernel_rfl) hS (y_cellS (by rfl) rfl rfl (fun w' h => by have := HT.out.cell h.atT 37 (by omega); rw [HL.out] at this; exact this)) ?_
  simp only [Act.put, List.setIfInBounds_toArray, List.set_cons_zero, List.set_cons_succ]
  refine mv_yield (i := 11) (d := 15) (.int .i64 (IntKind.i64.wrap (l + 1))) rfl rfl (by kernel_rfl) (by kernel_rfl) (by kernel_rfl) hS (y_add (by rfl) rfl rfl rfl rfl) ?_
  simp only [Act.put, List.setIfInBounds_toArray, List.set_cons_zero, List.set_cons_succ]
  refine mv_yield (i := 12) (d := 16) (.int .i64 z) rfl rfl (by kernel_rfl) (by kernel_rfl) (by kernel_rfl) hS (y_min (by rfl) rfl rfl rfl rfl HZ.out) ?_
  simp only [Act.put, List.setIfInBounds_toArray, List.set_cons_zero, List.set_cons_succ]
  refine mv_yield (i := 0) (d := 4) (.agg T) rfl rfl (by kernel_rfl) (by kernel_rfl) (by kernel_rfl) hS (y_load_part (l := 0) (by rfl) rfl rfl HT.out (fun w' h => h.atT) HT.out (by omega) (fun i _ => by rw [Nat.zero_add]) Try.underlying31 rfl (HIP.out _ HT.out.1)) ?_
  simp only [Act.put, List.setIfInBounds_toArray, List.set_cons_zero, List.set_cons_succ]
  refine mv_ready [3] (by kernel_rfl) (by simp) (ar_callP (i := 3) (d := 7) (v := .agg V) #[.agg VV] rfl rfl (by rfl) rfl enter_lowered (by kernel_rfl) (HLW.out _) (fun w' h => hS.next h) ?_ AllReadyH.nil)
  clear hS
  rintro w' hb hS
  clear hb
  simp only [Act.put, List.setIfInBounds_toArray, List.set_cons_zero, List.set_cons_succ]
  refine mv_ready [8] (by kernel_rfl) (by simp) (ar_callP (i := 8) (d := 12) (v := .agg U) #[.agg UU, .int .i64 l] rfl rfl (by rfl) rfl enter_halved (by kernel_rfl) (HHV.out _) (fun w' h => hS.next h) ?_ AllReadyH.nil)
  clear hS
  rintro w' hb hS
  clear hb
  simp only [Act.put, List.setIfInBounds_toArray, List.set_cons_zero, List.set_cons_succ]
  refine mv_ready [13] (by kernel_rfl) (by simp) (ar_callP (i := 13) (d := 17) (v := .tuple #[.agg R, .agg Q]) #[.agg T, .agg V, .agg U, .int .i64 z] rfl rfl (by rfl) rfl enter_next (by kernel_rfl) (HC.out _) (fun w' h => hS.next h) ?_ AllReadyH.nil)
  clear hS
  rintro w' hb hS
  clear hb
  simp only [Act.put, List.setIfInBounds_toArray, List.set_cons_zero, List.set_cons_succ]
  refine mv_yield (i := 14) (d := 18) (.agg R) rfl rfl (by kernel_rfl) (by kernel_rfl) (by kernel_rfl) hS (y_run (by rfl) fun _ => by rfl) ?_
  simp only [Act.put, List.setIfInBounds_toArray, List.set_cons_zero, List.set_cons_succ]
  refine mv_yield (i := 15) (d := 19) (.agg Q) rfl rfl (by kernel_rfl) (by kernel_rfl) (by kernel_rfl) hS (y_run (by rfl) fun _ => by rfl) ?_
  simp only [Act.put, List.setIfInBounds_toArray, List.set_cons_zero, List.set_cons_succ]
  obtain ⟨A, B, hA, hB, hX⟩ := id hS
  refine mv_ready [16] (by kernel_rfl) (by simp) (ar_store (i := 16) (w.heap.size + 1) R A rfl rfl (by rfl) rfl rfl rfl hX.2.2.1 (by rw [hA, HR.out.1]) HR.out.2.1 (HIB.out _ HR.out.1) (hS.setA HR.out.1) (fun hS' => ?_) AllReadyH.nil)
  have a5 := hX.2.2.1.setRow (C := R)
  have a6 := hX.2.2.2.setRow_other (C := R) (show w.heap.size + 1 + 1 ≠ w.heap.size + 1 by omega)
  refine mv_ready [17] (by kernel_rfl) (by simp) (ar_store (i := 17) (w.heap.size + 1 + 1) Q B rfl rfl (by rfl) rfl rfl rfl a6 (by rw [hB, HQ.out.1]) HQ.out.2.1 (HIP.out _ HQ.out.1) (hS'.setB HQ.out.1) (fun hS2 => ?_) AllReadyH.nil)
  have PX := Lib.hid (a5.setRow_other (C := Q) (show w.heap.size + 1 ≠ w.heap.size + 1 + 1 by omega))
  have PY := Lib.hid (a6.setRow (C := Q))
  obtain ⟨_, _, _, _, hb, _⟩ := hS2
  refine mv_done (by kernel_rfl) ?_
  have HB := Lib.hid hb
  clear hb hS hS' a5 a6 hX
  go_wp2_with fail
  exact bodyPost_ret (v := .tuple #[.agg R, .agg Q]) (results_any_two rfl _ _ (w.heap.size + 1) (w.heap.size + 1 + 1) R Q _ _ rfl rfl PX.out PY.out Try.underlying29 rfl (HIB.out _ HR.out.1) Try.underlying31 rfl (HIP.out _ HQ.out.1)) rfl ⟨rfl, HB.out⟩

theorem mr_min {l z : Int} (h0 : 0 ≤ l) (h1 : l ≤ 255) (hz : mrZ l = z) : min (IntKind.i64.wrap (l + 1)) 255 = z := by rw [IntWalk.i64_in _ (by omega)]; exact hz
/-- Behind a right state. -/
theorem lose_yes {T R Q : Array Value} {f : Nat → Int} (hT : IsRow 38 f T) (h : Rt f) (hR : IsRow 16 (slF f) R) (hQ : IsRow 38 (nlF f) Q) (w : World) :
    Calls Try.prog 12 #[.agg T] w fun e w' => e = .returned (.tuple #[.agg R, .agg Q]) ∧ Below w.heap.size w w' :=
  lose_of hT rfl rfl (mr_min h.2.2.2.2.1 h.2.2.2.2.2 rfl) (next_as (next_yes T _ _ f _ _ _ hT (isRow _ _) (isRow _ _) h (th_lost h)) hR hQ) hR hQ w
/-- Behind any other. -/
theorem lose_no {T R Q : Array Value} {f : Nat → Int} (hT : IsRow 38 f T) (h : ¬ Rt f) (hR : IsRow 16 (fun _ => 0) R) (hQ : IsRow 38 (fun _ => 0) Q) (w : World) :
    Calls Try.prog 12 #[.agg T] w fun e w' => e = .returned (.tuple #[.agg R, .agg Q]) ∧ Below w.heap.size w w' :=
  lose_of hT rfl rfl rfl (next_as (next_no T _ _ f _ _ _ hT (isRow _ _) (isRow _ _) (.inl h)) hR hQ) hR hQ w
theorem enter_lose (args : Array Value) (w : World) : (callFunc 12 args).run Try.prog w = .ok (.enter 12 args) w := run_enter Try.func12 (by kernel_rfl) rfl args w
end Go.Proofs.Ytfpmajlgbipbmaa.Lo
