/- Texts of the walk, one behind the other. -/
import Derived.Test.YtfohinlldchdpaaGreatDoorEncPlaysM24
import Derived.Test.YtfohinlldchdpaaGreatDoorEncPlaysM6
import Derived.Test.YtfohinlldchdpaaGreatDoorEncPlaysM1
import Derived.Test.YtfohinlldchdpaaGreatDoorEncPlaysM2
import Derived.Great.BuildSlice

section
/- Contract: enc's Right. Written by g44.py. -/
set_option maxRecDepth 100000
set_option linter.unusedVariables false
namespace Go.Proofs.YtfohinlldchdpaaGreatDoor.En
open Go.RowKit Go.Proofs.YtfohinlldchdpaaGreatDoor.Row Go.Proofs.YtfohinlldchdpaaGreatDoor.Rg Go.Proofs.YtfohinlldchdpaaGreatDoor.Md Go.Proofs.YtfohinlldchdpaaGreatDoor.Tl Go.Proofs.YtfohinlldchdpaaGreatDoor.Sta

theorem run_all16 (g : Nat) (w : World) : (Instr.sliceAt 32 (.pointer (some ⟨g, 0, none⟩)) none none none).run Tryz.prog w = .ok (.slice (some ⟨g, 0, none⟩) 16 16) w := by
  have hu : Tryz.prog.underlying 32 = some (.array (Tryz.prog.arrayLen 32) (Tryz.prog.elem 32)) := by kernel_rfl
  have hl : Tryz.prog.arrayLen 32 = 16 := by kernel_rfl
  have he : Tryz.prog.elem 32 = 3 := by kernel_rfl
  rw [run_sliceAt_array_all w 32 ⟨g, 0, none⟩ hu, he, sizeOf_int, hl]
  simp [slicedAt, Addr.add]
theorem y_all16 {ops : Array Oper} {S : World → Prop} {oi : Oper} {a : Act} {y : Operand} {b : Nat} (hw : Region.wanted oi (yielded ops a.tmps) = true) (ho : oi.op = .slice 32 y none none none) (hy : a.eval y = .pointer (some ⟨b, 0, none⟩)) :
    YieldsIf Tryz.prog ops S oi (.slice (some ⟨b, 0, none⟩) 16 16) a :=
  y_run hw fun w => by
    have h := run_all16 b w
    unfold execOp
    simp only [ho, hy, Option.map_none, Sem.run_bind, h, Result.andThen_ok, Sem.run_pure]
theorem run_one (z : Int) (w : World) : (Instr.buildSlice 68 1 #[(0, .int .i64 z)]).run Tryz.prog w = .ok (.slice (some ⟨w.heap.size, 0, none⟩) 1 1) (w.alloc (.cells #[.int .i64 z] 3)) := by
  obtain ⟨i, hi, hz, hsz, _⟩ := info_int3
  refine run_buildSlice w 68 3 1 _ _ i (.int .i64 0) Tryz.underlying68 hi hz (by rw [hsz]; decide) (by rw [hsz]; decide) ?_
  rw [hsz]
  first | kernel_rfl | (simp [Instr.fill, Value.cells]; done) | (unfold Instr.fill; rfl)
/-- A slice of one number written out, in a drawn region. -/
theorem af_one {ops : Array Oper} {Q : Exit → Act → World → Prop} {S : World → Prop} {F : Nat → Bool} {fuel : Nat} {listed : Array Bool} {a : Act} {w : World} {oi : Oper} {i d : Nat} {rs : List Nat} {x : Operand} (z : Int) (hi : ops[i]? = some oi) (hd : oi.dst = some d) (hw : Region.wanted oi (yielded ops a.tmps) = true)
    (ho : oi.op = .buildSlice 68 1 #[(0, x)]) (hx : a.eval x = .int .i64 z) (hS : F i = false → S (w.alloc (.cells #[.int .i64 z] 3)))
    (h : wpAnyF Tryz.prog .any ops (NoPanic Q) S F fuel (listed.setIfInBounds i true) (a.put (some d) (.slice (some ⟨w.heap.size, 0, none⟩) 1 1)) (w.alloc (.cells #[.int .i64 z] 3)))
    (hs : AllReadyF Tryz.prog .any ops (NoPanic Q) S F fuel listed a w rs) : AllReadyF Tryz.prog .any ops (NoPanic Q) S F fuel listed a w (i :: rs) := by
  refine AllReadyF.cons hi (fun K hK => ?_) hs
  rw [if_pos hw]
  unfold Oper.wp execOp
  have hv : (#[(0, x)] : Array (Nat × Operand)).map (fun (i, x) => (i, a.eval x)) = #[(0, .int .i64 z)] := by simp [hx]
  simp only [ho, hv, run_one, Sem.run_bind, Result.andThen_ok, Sem.run_pure]
  rw [Oper.upon_value, hd]
  exact hK.out _ _ hS h
theorem sl_one (w : World) (z : Int) : Sl .i64 (w.alloc (.cells #[.int .i64 z] 3)) (some ⟨w.heap.size, 0, none⟩) 1 1 (fun _ => z) :=
  ⟨Nat.le_refl _, by unfold maxLen; omega, fun _ => ⟨_, _, rfl, fun i hi => by
    obtain rfl : i = 0 := by omega
    simp⟩⟩

/-- What stands while Right works. -/
def Ri (w : World) (T : Array Value) (w' : World) : Prop := Below w.heap.size w w' ∧ At w' w.heap.size T 36
theorem Ri.next {w w1 w2 : World} {T : Array Value} (h : Ri w T w1) (hb : Below w1.heap.size w1 w2) : Ri w T w2 := ⟨below_trans h.1 hb h.1.size, h.2.below hb h.2.lt⟩
theorem Ri.sl {w w1 : World} {T : Array Value} {f : Nat → Int} (h : Ri w T w1) (hT : IsRow 55 f T) : Sl .i64 w1 (some ⟨w.heap.size, 0, none⟩) 16 16 f :=
  ⟨Nat.le_refl _, by unfold maxLen; omega, fun _ => ⟨_, _, rfl, fun i hi => by rw [Nat.zero_add]; exact hT.cell h.2 i (by omega)⟩⟩
theorem enter_within (args : Array Value) (w : World) : (callFunc 31 args).run Tryz.prog w = .ok (.enter 31 args) w := run_enter Tryz.func31 (by kernel_rfl) rfl args w
theorem enter_everyn (args : Array Value) (w : World) : (callFunc 30 args).run Tryz.prog w = .ok (.enter 30 args) w := run_enter Tryz.func30 (by kernel_rfl) rfl args w
theorem enter_areSamples (args : Array Value) (w : World) : (callFunc 27 args).run Tryz.prog w = .ok (.enter 27 args) w := run_enter Tryz.func27 (by kernel_rfl) rfl args w
theorem enter_sright (args : Array Value) (w : World) : (callFunc 32 args).run Tryz.prog w = .ok (.enter 32 args) w := run_enter Tryz.func32 (by kernel_rfl) rfl args w

set_option maxHeartbeats 1000000 in
theorem eright_1 (T : Array Value) (f : Nat → Int) (w : World) (hT : IsRow 55 f T) (h1 : allB f (-131072) 131072 16 = false) :
    Calls Tryz.prog 14 #[.agg T] w fun e w' => e = .returned (.bool false) ∧ Below w.heap.size w w' := by
  obtain ⟨_, _, _, _, his⟩ := Sta.zero_p
  obtain ⟨z, hz16⟩ : ∃ z, f 16 = z := ⟨_, rfl⟩
  obtain ⟨Q, hQ⟩ : ∃ M, T.extract 17 (17 + 38) = M := ⟨_, rfl⟩
  have hQ' := hT.sub (show 17 + 38 ≤ 55 by omega)
  rw [hQ] at hQ'
  have P1 := Lib.hid h1
  have HIS := Lib.hid his
  have HT := Lib.hid hT
  have HQ := Lib.hid hQ'
  have HZ16 := Lib.hid hz16
  have HW := Lib.hid (show Ri w T (w.alloc (.cells T 36)) from ⟨(Below.refl _ _).alloc (Nat.le_refl _) _, At.new _ _ _⟩)
  clear hT his hz16 hQ hQ' h1
  go_enter Tryz.func14, Tryz.ntmps14
  go_wp2_with fail
  revert HW
  generalize World.alloc _ _ = W
  intro HW
  refine mf_start (Ri w T) (fun _ => false) (HW.out.next ((Below.refl _ _).drew)) fun hS => ?_
  refine mf_yield (i := 0) (d := 3) (.pointer (some ⟨w.heap.size, 0, none⟩)) rfl rfl (by kernel_rfl) (by kernel_rfl) (by kernel_rfl) (by kernel_rfl) hS (y_field (by rfl) rfl rfl fld_ep0) ?_
  simp only [Act.put, List.setIfInBounds_toArray, List.set_cons_zero, List.set_cons_succ]
  refine mf_yield (i := 1) (d := 4) (.slice (some ⟨w.heap.size, 0, none⟩) 16 16) rfl rfl (by kernel_rfl) (by kernel_rfl) (by kernel_rfl) (by kernel_rfl) hS (y_all16 (by rfl) rfl rfl) ?_
  simp only [Act.put, List.setIfInBounds_toArray, List.set_cons_zero, List.set_cons_succ]
  refine mf_ready [2] (by kernel_rfl) (by simp) (af_call (i := 2) (d := 5) (R := fun v w' => ∃ p q, v = .func (.func 80) #[] #[.pointer (some ⟨p, 0, none⟩), .pointer (some ⟨q, 0, none⟩)] ∧ Wi w' p q (-131072) 131072 ∧ Ri w T w') #[.int .i64 (-131072), .int .i64 131072] rfl rfl (by rfl) rfl enter_within (by kernel_rfl) ((within_any _ _ _).mono fun e w' h => by
    obtain ⟨p, q, he, hW, hb⟩ := h
    exact ⟨_, he, p, q, rfl, hW, hS.next hb⟩) (fun v w' h => by obtain ⟨_, _, _, _, h⟩ := h; exact h) ?_ AllReadyF.nil)
  clear hS
  rintro v w5 ⟨p, q, rfl, hW, hS⟩ _
  simp only [Act.put, List.setIfInBounds_toArray, List.set_cons_zero, List.set_cons_succ]
  refine mf_ready [3] (by kernel_rfl) (by simp) (af_call (i := 3) (d := 6) (R := fun v w' => v = .bool false ∧ Ri w T w') #[.slice (some ⟨w.heap.size, 0, none⟩) 16 16, .func (.func 80) #[] #[.pointer (some ⟨p, 0, none⟩), .pointer (some ⟨q, 0, none⟩)]] rfl rfl (by rfl) rfl enter_everyn (by kernel_rfl) ((every_num _ 16 16 f (-131072) 131072 p q _ (hS.sl HT.out) hW).mono fun e w' h => ⟨_, h.1, by rw [P1.out], h.2 ▸ hS⟩) (fun v w' h => h.2) ?_ AllReadyF.nil)
  clear hS hW
  rintro v w6 ⟨rfl, hS⟩ _
  simp only [Act.put, List.setIfInBounds_toArray, List.set_cons_zero, List.set_cons_succ]
  refine mf_yield (i := 4) (d := 7) (.bool false) rfl rfl (by kernel_rfl) (by kernel_rfl) (by kernel_rfl) (by kernel_rfl) hS (y_run (by rfl) fun _ => by rfl) ?_
  simp only [Act.put, List.setIfInBounds_toArray, List.set_cons_zero, List.set_cons_succ]
  refine mf_yield (i := 5) (d := 8) undef rfl rfl (by kernel_rfl) (by kernel_rfl) (by kernel_rfl) (by kernel_rfl) hS (y_skip (by rfl)) ?_
  simp only [Act.put, List.setIfInBounds_toArray, List.set_cons_zero, List.set_cons_succ]
  refine mf_yield (i := 6) (d := 9) undef rfl rfl (by kernel_rfl) (by kernel_rfl) (by kernel_rfl) (by kernel_rfl) hS (y_skip (by rfl)) ?_
  simp only [Act.put, List.setIfInBounds_toArray, List.set_cons_zero, List.set_cons_succ]
  refine mf_yield (i := 7) (d := 10) undef rfl rfl (by kernel_rfl) (by kernel_rfl) (by kernel_rfl) (by kernel_rfl) hS (y_skip (by rfl)) ?_
  simp only [Act.put, List.setIfInBounds_toArray, List.set_cons_zero, List.set_cons_succ]
  refine mf_yield (i := 8) (d := 11) undef rfl rfl (by kernel_rfl) (by kernel_rfl) (by kernel_rfl) (by kernel_rfl) hS (y_skip (by rfl)) ?_
  simp only [Act.put, List.setIfInBounds_toArray, List.set_cons_zero, List.set_cons_succ]
  refine mf_yield (i := 9) (d := 12) (.bool false) rfl rfl (by kernel_rfl) (by kernel_rfl) (by kernel_rfl) (by kernel_rfl) hS (y_run (by rfl) fun _ => by rfl) ?_
  simp only [Act.put, List.setIfInBounds_toArray, List.set_cons_zero, List.set_cons_succ]
  refine mf_yield (i := 10) (d := 13) (.bool false) rfl rfl (by kernel_rfl) (by kernel_rfl) (by kernel_rfl) (by kernel_rfl) hS (y_run (by rfl) fun _ => by rfl) ?_
  simp only [Act.put, List.setIfInBounds_toArray, List.set_cons_zero, List.set_cons_succ]
  refine mf_yield (i := 11) (d := 14) undef rfl rfl (by kernel_rfl) (by kernel_rfl) (by kernel_rfl) (by kernel_rfl) hS (y_skip (by rfl)) ?_
  simp only [Act.put, List.setIfInBounds_toArray, List.set_cons_zero, List.set_cons_succ]
  refine mf_yield (i := 12) (d := 15) undef rfl rfl (by kernel_rfl) (by kernel_rfl) (by kernel_rfl) (by kernel_rfl) hS (y_skip (by rfl)) ?_
  simp only [Act.put, List.setIfInBounds_toArray, List.set_cons_zero, List.set_cons_succ]
  refine mf_yield (i := 13) (d := 16) undef rfl rfl (by kernel_rfl) (by kernel_rfl) (by kernel_rfl) (by kernel_rfl) hS (y_skip (by rfl)) ?_
  simp only [Act.put, List.setIfInBounds_toArray, List.set_cons_zero, List.set_cons_succ]
  refine mf_yield (i := 14) (d := 17) (.bool false) rfl rfl (by kernel_rfl) (by kernel_rfl) (by kernel_rfl) (by kernel_rfl) hS (y_run (by rfl) fun _ => by rfl) ?_
  simp only [Act.put, List.setIfInBounds_toArray, List.set_cons_zero, List.set_cons_succ]
  refine mf_yield (i := 15) (d := 2) (.bool false) rfl rfl (by kernel_rfl) (by kernel_rfl) (by kernel_rfl) (by kernel_rfl) hS (y_run (by rfl) fun _ => by rfl) ?_
  simp only [Act.put, List.setIfInBounds_toArray, List.set_cons_zero, List.set_cons_succ]
  refine mf_done (by kernel_rfl) ?_
  have HB := Lib.hid hS.1
  clear hS
  go_wp2_with fail
  go_ret
  exact ⟨rfl, HB.out⟩

set_option maxHeartbeats 1000000 in
theorem eright_2 (T : Array Value) (f : Nat → Int) (w : World) (hT : IsRow 55 f T) (h1 : allB f (-131072) 131072 16 = true) (h2 : allB (fun _ => f 16) (-32768) 32767 1 = false) :
    Calls Tryz.prog 14 #[.agg T] w fun e w' => e = .returned (.bool false) ∧ Below w.heap.size w w' := by
  obtain ⟨_, _, _, _, his⟩ := Sta.zero_p
  obtain ⟨z, hz16⟩ : ∃ z, f 16 = z := ⟨_, rfl⟩
  obtain ⟨Q, hQ⟩ : ∃ M, T.extract 17 (17 + 38) = M := ⟨_, rfl⟩
  have hQ' := hT.sub (show 17 + 38 ≤ 55 by omega)
  rw [hQ] at hQ'
  have P2 := Lib.hid h2
  rw [hz16] at P2
  have P1 := Lib.hid h1
  have HIS := Lib.hid his
  have HT := Lib.hid hT
  have HQ := Lib.hid hQ'
  have HZ16 := Lib.hid hz16
  have HW := Lib.hid (show Ri w T (w.alloc (.cells T 36)) from ⟨(Below.refl _ _).alloc (Nat.le_refl _) _, At.new _ _ _⟩)
  clear hT his hz16 hQ hQ' h1 h2
  go_enter Tryz.func14, Tryz.ntmps14
  go_wp2_with fail
  revert HW
  generalize World.alloc _ _ = W
  intro HW
  refine mf_start (Ri w T) (fun _ => false) (HW.out.next ((Below.refl _ _).drew)) fun hS => ?_
  refine mf_yield (i := 0) (d := 3) (.pointer (some ⟨w.heap.size, 0, none⟩)) rfl rfl (by kernel_rfl) (by kernel_rfl) (by kernel_rfl) (by kernel_rfl) hS (y_field (by rfl) rfl rfl fld_ep0) ?_
  simp only [Act.put, List.setIfInBounds_toArray, List.set_cons_zero, List.set_cons_succ]
  refine mf_yield (i := 1) (d := 4) (.slice (some ⟨w.heap.size, 0, none⟩) 16 16) rfl rfl (by kernel_rfl) (by kernel_rfl) (by kernel_rfl) (by kernel_rfl) hS (y_all16 (by rfl) rfl rfl) ?_
  simp only [Act.put, List.setIfInBounds_toArray, List.set_cons_zero, List.set_cons_succ]
  refine mf_ready [2] (by kernel_rfl) (by simp) (af_call (i := 2) (d := 5) (R := fun v w' => ∃ p q, v = .func (.func 80) #[] #[.pointer (some ⟨p, 0, none⟩), .pointer (some ⟨q, 0, none⟩)] ∧ Wi w' p q (-131072) 131072 ∧ Ri w T w') #[.int .i64 (-131072), .int .i64 131072] rfl rfl (by rfl) rfl enter_within (by kernel_rfl) ((within_any _ _ _).mono fun e w' h => by
    obtain ⟨p, q, he, hW, hb⟩ := h
    exact ⟨_, he, p, q, rfl, hW, hS.next hb⟩) (fun v w' h => by obtain ⟨_, _, _, _, h⟩ := h; exact h) ?_ AllReadyF.nil)
  clear hS
  rintro v w5 ⟨p, q, rfl, hW, hS⟩ _
  simp only [Act.put, List.setIfInBounds_toArray, List.set_cons_zero, List.set_cons_succ]
  refine mf_ready [3] (by kernel_rfl) (by simp) (af_call (i := 3) (d := 6) (R := fun v w' => v = .bool true ∧ Ri w T w') #[.slice (some ⟨w.heap.size, 0, none⟩) 16 16, .func (.func 80) #[] #[.pointer (some ⟨p, 0, none⟩), .pointer (some ⟨q, 0, none⟩)]] rfl rfl (by rfl) rfl enter_everyn (by kernel_rfl) ((every_num _ 16 16 f (-131072) 131072 p q _ (hS.sl HT.out) hW).mono fun e w' h => ⟨_, h.1, by rw [P1.out], h.2 ▸ hS⟩) (fun v w' h => h.2) ?_ AllReadyF.nil)
  clear hS hW
  rintro v w6 ⟨rfl, hS⟩ _
  simp only [Act.put, List.setIfInBounds_toArray, List.set_cons_zero, List.set_cons_succ]
  refine mf_yield (i := 4) (d := 7) (.bool true) rfl rfl (by kernel_rfl) (by kernel_rfl) (by kernel_rfl) (by kernel_rfl) hS (y_run (by rfl) fun _ => by rfl) ?_
  simp only [Act.put, List.setIfInBounds_toArray, List.set_cons_zero, List.set_cons_succ]
  refine mf_yield (i := 5) (d := 8) (.pointer (some ⟨w.heap.size, 16, none⟩)) rfl rfl (by kernel_rfl) (by kernel_rfl) (by kernel_rfl) (by kernel_rfl) hS (y_field (by rfl) rfl rfl fld_ep1) ?_
  simp only [Act.put, List.setIfInBounds_toArray, List.set_cons_zero, List.set_cons_succ]
  refine mf_yield (i := 6) (d := 9) (.int .i64 z) rfl rfl (by kernel_rfl) (by kernel_rfl) (by kernel_rfl) (by kernel_rfl) hS (y_cellS (by rfl) rfl rfl (fun w' h => by have := HT.out.cell h.2 16 (by omega); rw [HZ16.out] at this; exact this)) ?_
  simp only [Act.put, List.setIfInBounds_toArray, List.set_cons_zero, List.set_cons_succ]
  refine mf_ready [7] (by kernel_rfl) (by simp) (af_one (i := 7) (d := 10) z rfl rfl (by rfl) rfl rfl (fun _ => hS.next ((Below.refl _ _).alloc (Nat.le_refl _) _)) ?_ AllReadyF.nil)
  have hS7 := hS.next ((Below.refl _ _).alloc (Nat.le_refl _) (.cells #[.int .i64 z] 3))
  have hA7 := sl_one w6 z
  generalize w6.heap.size = b7 at hA7 ⊢
  revert hS7 hA7
  generalize World.alloc _ _ = w7
  intro hS7 hA7
  clear hS
  simp only [Act.put, List.setIfInBounds_toArray, List.set_cons_zero, List.set_cons_succ]
  refine mf_ready [8] (by kernel_rfl) (by simp) (af_call (i := 8) (d := 11) (R := fun v w' => v = .bool false ∧ Ri w T w') #[.slice (some ⟨b7, 0, none⟩) 1 1] rfl rfl (by rfl) rfl enter_areSamples (by kernel_rfl) ((areSamples_any _ 1 1 (fun _ => z) _ hA7).mono fun e w' h => ⟨_, h.1, by rw [P2.out], hS7.next h.2⟩) (fun v w' h => h.2) ?_ AllReadyF.nil)
  clear hS7 hA7
  rintro v w8 ⟨rfl, hS⟩ _
  simp only [Act.put, List.setIfInBounds_toArray, List.set_cons_zero, List.set_cons_succ]
  refine mf_yield (i := 9) (d := 12) (.bool false) rfl rfl (by kernel_rfl) (by kernel_rfl) (by kernel_rfl) (by kernel_rfl) hS (y_run (by rfl) fun _ => by rfl) ?_
  simp only [Act.put, List.setIfInBounds_toArray, List.set_cons_zero, List.set_cons_succ]
  refine mf_yield (i := 10) (d := 13) (.bool false) rfl rfl (by kernel_rfl) (by kernel_rfl) (by kernel_rfl) (by kernel_rfl) hS (y_run (by rfl) fun _ => by rfl) ?_
  simp only [Act.put, List.setIfInBounds_toArray, List.set_cons_zero, List.set_cons_succ]
  refine mf_yield (i := 11) (d := 14) undef rfl rfl (by kernel_rfl) (by kernel_rfl) (by kernel_rfl) (by kernel_rfl) hS (y_skip (by rfl)) ?_
  simp only [Act.put, List.setIfInBounds_toArray, List.set_cons_zero, List.set_cons_succ]
  refine mf_yield (i := 12) (d := 15) undef rfl rfl (by kernel_rfl) (by kernel_rfl) (by kernel_rfl) (by kernel_rfl) hS (y_skip (by rfl)) ?_
  simp only [Act.put, List.setIfInBounds_toArray, List.set_cons_zero, List.set_cons_succ]
  refine mf_yield (i := 13) (d := 16) undef rfl rfl (by kernel_rfl) (by kernel_rfl) (by kernel_rfl) (by kernel_rfl) hS (y_skip (by rfl)) ?_
  simp only [Act.put, List.setIfInBounds_toArray, List.set_cons_zero, List.set_cons_succ]
  refine mf_yield (i := 14) (d := 17) (.bool false) rfl rfl (by kernel_rfl) (by kernel_rfl) (by kernel_rfl) (by kernel_rfl) hS (y_run (by rfl) fun _ => by rfl) ?_
  simp only [Act.put, List.setIfInBounds_toArray, List.set_cons_zero, List.set_cons_succ]
  refine mf_yield (i := 15) (d := 2) (.bool false) rfl rfl (by kernel_rfl) (by kernel_rfl) (by kernel_rfl) (by kernel_rfl) hS (y_run (by rfl) fun _ => by rfl) ?_
  simp only [Act.put, List.setIfInBounds_toArray, List.set_cons_zero, List.set_cons_succ]
  refine mf_done (by kernel_rfl) ?_
  have HB := Lib.hid hS.1
  clear hS
  go_wp2_with fail
  go_ret
  exact ⟨rfl, HB.out⟩

set_option maxHeartbeats 1000000 in
theorem eright_3 (T : Array Value) (f : Nat → Int) (r : Bool) (w : World) (hT : IsRow 55 f T) (h1 : allB f (-131072) 131072 16 = true) (h2 : allB (fun _ => f 16) (-32768) 32767 1 = true) (h3 : ∀ Q, IsRow 38 (fun i => f (17 + i)) Q → ∀ w, Calls Tryz.prog 32 #[.agg Q] w fun e w' => e = .returned (.bool r) ∧ Below w.heap.size w w') :
    Calls Tryz.prog 14 #[.agg T] w fun e w' => e = .returned (.bool r) ∧ Below w.heap.size w w' := by
  obtain ⟨_, _, _, _, his⟩ := Sta.zero_p
  obtain ⟨z, hz16⟩ : ∃ z, f 16 = z := ⟨_, rfl⟩
  obtain ⟨Q, hQ⟩ : ∃ M, T.extract 17 (17 + 38) = M := ⟨_, rfl⟩
  have hQ' := hT.sub (show 17 + 38 ≤ 55 by omega)
  rw [hQ] at hQ'
  have P2 := Lib.hid h2
  rw [hz16] at P2
  have P1 := Lib.hid h1
  have HR := Lib.hid (h3 Q hQ')
  have HIS := Lib.hid his
  have HT := Lib.hid hT
  have HQ := Lib.hid hQ'
  have HZ16 := Lib.hid hz16
  have HW := Lib.hid (show Ri w T (w.alloc (.cells T 36)) from ⟨(Below.refl _ _).alloc (Nat.le_refl _) _, At.new _ _ _⟩)
  clear hT his hz16 hQ hQ' h1 h2 h3
  go_enter Tryz.func14, Tryz.ntmps14
  go_wp2_with fail
  revert HW
  generalize World.alloc _ _ = W
  intro HW
  refine mf_start (Ri w T) (fun _ => false) (HW.out.next ((Below.refl _ _).drew)) fun hS => ?_
  refine mf_yield (i := 0) (d := 3) (.pointer (some ⟨w.heap.size, 0, none⟩)) rfl rfl (by kernel_rfl) (by kernel_rfl) (by kernel_rfl) (by kernel_rfl) hS (y_field (by rfl) rfl rfl fld_ep0) ?_
  simp only [Act.put, List.setIfInBounds_toArray, List.set_cons_zero, List.set_cons_succ]
  refine mf_yield (i := 1) (d := 4) (.slice (some ⟨w.heap.size, 0, none⟩) 16 16) rfl rfl (by kernel_rfl) (by kernel_rfl) (by kernel_rfl) (by kernel_rfl) hS (y_all16 (by rfl) rfl rfl) ?_
  simp only [Act.put, List.setIfInBounds_toArray, List.set_cons_zero, List.set_cons_succ]
  refine mf_ready [2] (by kernel_rfl) (by simp) (af_call (i := 2) (d := 5) (R := fun v w' => ∃ p q, v = .func (.func 80) #[] #[.pointer (some ⟨p, 0, none⟩), .pointer (some ⟨q, 0, none⟩)] ∧ Wi w' p q (-131072) 131072 ∧ Ri w T w') #[.int .i64 (-131072), .int .i64 131072] rfl rfl (by rfl) rfl enter_within (by kernel_rfl) ((within_any _ _ _).mono fun e w' h => by
    obtain ⟨p, q, he, hW, hb⟩ := h
    exact ⟨_, he, p, q, rfl, hW, hS.next hb⟩) (fun v w' h => by obtain ⟨_, _, _, _, h⟩ := h; exact h) ?_ AllReadyF.nil)
  clear hS
  rintro v w5 ⟨p, q, rfl, hW, hS⟩ _
  simp only [Act.put, List.setIfInBounds_toArray, List.set_cons_zero, List.set_cons_succ]
  refine mf_ready [3] (by kernel_rfl) (by simp) (af_call (i := 3) (d := 6) (R := fun v w' => v = .bool true ∧ Ri w T w') #[.slice (some ⟨w.heap.size, 0, none⟩) 16 16, .func (.func 80) #[] #[.pointer (some ⟨p, 0, none⟩), .pointer (some ⟨q, 0, none⟩)]] rfl rfl (by rfl) rfl enter_everyn (by kernel_rfl) ((every_num _ 16 16 f (-131072) 131072 p q _ (hS.sl HT.out) hW).mono fun e w' h => ⟨_, h.1, by rw [P1.out], h.2 ▸ hS⟩) (fun v w' h => h.2) ?_ AllReadyF.nil)
  clear hS hW
  rintro v w6 ⟨rfl, hS⟩ _
  simp only [Act.put, List.setIfInBounds_toArray, List.set_cons_zero, List.set_cons_succ]
  refine mf_yield (i := 4) (d := 7) (.bool true) rfl rfl (by kernel_rfl) (by kernel_rfl) (by kernel_rfl) (by kernel_rfl) hS (y_run (by rfl) fun _ => by rfl) ?_
  simp only [Act.put, List.setIfInBounds_toArray, List.set_cons_zero, List.set_cons_succ]
  refine mf_yield (i := 5) (d := 8) (.pointer (some ⟨w.heap.size, 16, none⟩)) rfl rfl (by kernel_rfl) (by kernel_rfl) (by kernel_rfl) (by kernel_rfl) hS (y_field (by rfl) rfl rfl fld_ep1) ?_
  simp only [Act.put, List.setIfInBounds_toArray, List.set_cons_zero, List.set_cons_succ]
  refine mf_yield (i := 6) (d := 9) (.int .i64 z) rfl rfl (by kernel_rfl) (by kernel_rfl) (by kernel_rfl) (by kernel_rfl) hS (y_cellS (by rfl) rfl rfl (fun w' h => by have := HT.out.cell h.2 16 (by omega); rw [HZ16.out] at this; exact this)) ?_
  simp only [Act.put, List.setIfInBounds_toArray, List.set_cons_zero, List.set_cons_succ]
  refine mf_ready [7] (by kernel_rfl) (by simp) (af_one (i := 7) (d := 10) z rfl rfl (by rfl) rfl rfl (fun _ => hS.next ((Below.refl _ _).alloc (Nat.le_refl _) _)) ?_ AllReadyF.nil)
  have hS7 := hS.next ((Below.refl _ _).alloc (Nat.le_refl _) (.cells #[.int .i64 z] 3))
  have hA7 := sl_one w6 z
  generalize w6.heap.size = b7 at hA7 ⊢
  revert hS7 hA7
  generalize World.alloc _ _ = w7
  intro hS7 hA7
  clear hS
  simp only [Act.put, List.setIfInBounds_toArray, List.set_cons_zero, List.set_cons_succ]
  refine mf_ready [8] (by kernel_rfl) (by simp) (af_call (i := 8) (d := 11) (R := fun v w' => v = .bool true ∧ Ri w T w') #[.slice (some ⟨b7, 0, none⟩) 1 1] rfl rfl (by rfl) rfl enter_areSamples (by kernel_rfl) ((areSamples_any _ 1 1 (fun _ => z) _ hA7).mono fun e w' h => ⟨_, h.1, by rw [P2.out], hS7.next h.2⟩) (fun v w' h => h.2) ?_ AllReadyF.nil)
  clear hS7 hA7
  rintro v w8 ⟨rfl, hS⟩ _
  simp only [Act.put, List.setIfInBounds_toArray, List.set_cons_zero, List.set_cons_succ]
  refine mf_yield (i := 9) (d := 12) (.bool true) rfl rfl (by kernel_rfl) (by kernel_rfl) (by kernel_rfl) (by kernel_rfl) hS (y_run (by rfl) fun _ => by rfl) ?_
  simp only [Act.put, List.setIfInBounds_toArray, List.set_cons_zero, List.set_cons_succ]
  refine mf_yield (i := 10) (d := 13) (.bool true) rfl rfl (by kernel_rfl) (by kernel_rfl) (by kernel_rfl) (by kernel_rfl) hS (y_run (by rfl) fun _ => by rfl) ?_
  simp only [Act.put, List.setIfInBounds_toArray, List.set_cons_zero, List.set_cons_succ]
  refine mf_yield (i := 11) (d := 14) (.pointer (some ⟨w.heap.size, 17, none⟩)) rfl rfl (by kernel_rfl) (by kernel_rfl) (by kernel_rfl) (by kernel_rfl) hS (y_field (by rfl) rfl rfl fld_ep2) ?_
  simp only [Act.put, List.setIfInBounds_toArray, List.set_cons_zero, List.set_cons_succ]
  refine mf_yield (i := 12) (d := 15) (.agg Q) rfl rfl (by kernel_rfl) (by kernel_rfl) (by kernel_rfl) (by kernel_rfl) hS (y_load_part (l := 17) (by rfl) rfl rfl HT.out (fun w' h => h.2) HQ.out (by omega) (fun i _ => rfl) Tryz.underlying34 rfl (HIS.out _ HQ.out.1)) ?_
  simp only [Act.put, List.setIfInBounds_toArray, List.set_cons_zero, List.set_cons_succ]
  refine mf_ready [13] (by kernel_rfl) (by simp) (af_call (i := 13) (d := 16) (R := fun v w' => v = .bool r ∧ Ri w T w') #[.agg Q] rfl rfl (by rfl) rfl enter_sright (by kernel_rfl) ((HR.out _).mono fun e w' h => ⟨_, h.1, rfl, hS.next h.2⟩) (fun v w' h => h.2) ?_ AllReadyF.nil)
  clear hS
  rintro v w9 ⟨rfl, hS⟩ _
  simp only [Act.put, List.setIfInBounds_toArray, List.set_cons_zero, List.set_cons_succ]
  refine mf_yield (i := 14) (d := 17) (.bool r) rfl rfl (by kernel_rfl) (by kernel_rfl) (by kernel_rfl) (by kernel_rfl) hS (y_run (by rfl) fun _ => by rfl) ?_
  simp only [Act.put, List.setIfInBounds_toArray, List.set_cons_zero, List.set_cons_succ]
  refine mf_yield (i := 15) (d := 2) (.bool r) rfl rfl (by kernel_rfl) (by kernel_rfl) (by kernel_rfl) (by kernel_rfl) hS (y_run (by rfl) fun _ => by rfl) ?_
  simp only [Act.put, List.setIfInBounds_toArray, List.set_cons_zero, List.set_cons_succ]
  refine mf_done (by kernel_rfl) ?_
  have HB := Lib.hid hS.1
  clear hS
  go_wp2_with fail
  go_ret
  exact ⟨rfl, HB.out⟩

theorem eright_any (T : Array Value) (f : Nat → Int) (r : Bool) (w : World) (hT : IsRow 55 f T) (hr : r = true ↔ Re f) :
    Calls Tryz.prog 14 #[.agg T] w fun e w' => e = .returned (.bool r) ∧ Below w.heap.size w w' := by
  have no : ¬ Re f → r = false := fun h => by cases r <;> first | rfl | exact absurd (hr.1 rfl) h
  cases e1 : allB f (-131072) 131072 16 with
  | false =>
    rw [no fun h => by have := (allB_iff f (-131072) 131072 16).2 h.1; rw [e1] at this; cases this]
    exact eright_1 T f w hT e1
  | true =>
    cases e2 : allB (fun _ => f 16) (-32768) 32767 1 with
    | false =>
      rw [no fun h => by have := (allB_iff (fun _ => f 16) (-32768) 32767 1).2 (fun _ _ => h.2.1); rw [e2] at this; cases this]
      exact eright_2 T f w hT e1 e2
    | true =>
      have a1 := (allB_iff f (-131072) 131072 16).1 e1
      have a2 := (allB_iff (fun _ => f 16) (-32768) 32767 1).1 e2 0 (by omega)
      refine eright_3 T f r w hT e1 e2 fun Q hQ w => ?_
      by_cases h : Rt fun i => f (17 + i)
      · rw [hr.2 ⟨a1, a2, h⟩]
        exact right_yes Q _ w hQ h
      · rw [no fun hh => h hh.2.2]
        exact right_no Q _ w hQ h
end Go.Proofs.YtfohinlldchdpaaGreatDoor.En
end
