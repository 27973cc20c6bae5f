/- The program's parse: what bytes tell of a page, right or not. -/
import Derived.Test.YteahbdnnieaaaaaPaC
import Derived.Test.YteahbdnnieaaaaaPaO
set_option maxRecDepth 100000
set_option linter.unusedVariables false
set_option linter.unusedSimpArgs false
namespace Go.Proofs.Yteahbdnnieaaaaa.Pa
open Go.RowKit Go.Proofs.Yteahbdnnieaaaaa.Row Go.Proofs.Yteahbdnnieaaaaa.Crc

/-- What bytes tell of a page. -/
def ps (b : List UInt8) : Pv := ⟨fo b 4, fo b 8, (B b 12 : Nat), decide (B b 13 % 2 = 1), decide (B b 13 / 2 % 2 = 1), (b.drop 15).take (min (B b 14) 49)⟩
theorem and_1 : ∀ x : Fin 256, (((x.val &&& 1 : Nat) : Int) != 0) = decide (x.val % 2 = 1) := by decide
theorem and_2 : ∀ x : Fin 256, (((x.val &&& 2 : Nat) : Int) != 0) = decide (x.val / 2 % 2 = 1) := by decide
theorem y_and8 {ops : Array Oper} {S : World → Prop} {a : Act} {oi : Oper} {t t' : TypeId} {y z : Operand} {m n : Nat} (hw : Region.wanted oi (yielded ops a.tmps) = true) (ho : oi.op = .binOp .and t y z t') (hy : a.eval y = .int .u8 (m : Nat)) (hz : a.eval z = .int .u8 (n : Nat)) (hm : m < 256) (hn : n < 256) : YieldsIf Try.prog ops S oi (.int .u8 ((m &&& n : Nat))) a :=
  y_run hw fun w => by
    have hr := u8_and_nat m n hm hn
    unfold execOp
    simp only [ho, hy, hz]
    simp [go_sem, hr]
theorem enter_number (args : Array Value) (w : World) : (callFunc 22 args).run Try.prog w = .ok (.enter 22 args) w := run_enter Try.func22 (by kernel_rfl) rfl args w
theorem number_fo (b : List UInt8) (i n : Nat) (hb : b.length = 64) (h : i + 4 ≤ 64) (hn : 4 ≤ n) (w : World) :
    Calls Try.prog 22 #[.string ⟨((b.drop i).take n).toArray⟩] w fun e w' => e = .returned (.int .u32 (fo b i : Nat)) ∧ w = w' := by
  have hl : (⟨((b.drop i).take n).toArray⟩ : ByteArray).size ≤ maxLen := by
    have : (⟨((b.drop i).take n).toArray⟩ : ByteArray).size = ((b.drop i).take n).length := by simp [ByteArray.size]
    rw [this, List.length_take, List.length_drop]
    unfold maxLen
    omega
  have e := number_any ⟨((b.drop i).take n).toArray⟩ w hl
  rw [show (⟨((b.drop i).take n).toArray⟩ : ByteArray).data.toList = (b.drop i).take n from rfl, List.take_take, show min 4 n = 4 from by omega, num_fo b i (by omega)] at e
  exact e
theorem built_pg (a c k : Int) (x y : Bool) (s : ByteArray) : Try.prog.built 31 [(0, .int .u32 a), (1, .int .u32 c), (2, .int .i64 k), (3, .bool x), (4, .bool y), (5, .string s)] = some #[.int .u32 a, .int .u32 c, .int .i64 k, .bool x, .bool y, .string s] := by kernel_rfl
theorem zero_pg (w : World) : (zeroValue 31).run Try.prog w = .ok (.agg (pgV Pv.zero)) w := by kernel_rfl
theorem run_min2 (x u : Nat) (h : min x 49 = u) (w : World) :
    Sem.run Try.prog (Builtin.min_ #[3, 3] 3 #[.int .i64 x, .int .i64 49]) w = .ok (.int .i64 u) w := by
  have e : (if (49 : Int) < x then (49 : Int) else x) = u := by
    rw [← h]; split <;> omega
  rw [← e]
  simp [Builtin.min_, Builtin.min2]
/-- While bytes are parsed. -/
def PsI (w : World) (b : List UInt8) (w' : World) : Prop := Below w.heap.size w w' ∧ At w' w.heap.size (bl b) 27 ∧ At w' (w.heap.size + 1) (pgV Pv.zero) 31
theorem PsI.drew {w w' : World} {b : List UInt8} (h : PsI w b w') : PsI w b w'.drew := ⟨h.1.drew, h.2.1, h.2.2⟩

set_option maxHeartbeats 4000000 in
theorem parse_as (b : List UInt8) (w : World) (hb : b.length = 64) :
    Calls Try.prog 23 #[.agg (bl b)] w fun e w' => e = .returned (.agg (pgV (ps b))) ∧ Below w.heap.size w w' := by
  have HBL := Lib.hid hb
  obtain ⟨N, hN⟩ : ∃ N, min (B b 14) 49 = N := ⟨_, rfl⟩
  have hN49 : N ≤ 49 := by omega
  have hmin := fun w => run_min2 (B b 14) N hN w
  have hB14 := B_lt b 14
  have HI := Lib.hid (show PsI w b ((w.alloc (.cells (bl b) 27)).alloc (.cells (pgV Pv.zero) 31)) from ⟨below_second _ _ _, (At.new w (bl b) _).alloc _, at_second w _ _ _⟩)
  have c14 : ((w.alloc (.cells (bl b) 27)).alloc (.cells (pgV Pv.zero) 31)).cell? ⟨w.heap.size, 14, none⟩ = some (.int .u8 (B b 14)) := by
    rw [cell_of_row _ _ _ _ _ _ HI.out.2.1, bl_at b 14 (by omega)]
  obtain ⟨f1, hf1⟩ : ∃ f, decide (B b 13 % 2 = 1) = f := ⟨_, rfl⟩
  obtain ⟨f2, hf2⟩ : ∃ f, decide (B b 13 / 2 % 2 = 1) = f := ⟨_, rfl⟩
  have HF1 := Lib.hid ((and_1 ⟨B b 13, B_lt b 13⟩).trans hf1)
  have HF2 := Lib.hid ((and_2 ⟨B b 13, B_lt b 13⟩).trans hf2)
  have hps : pgV (ps b) = #[.int .u32 (fo b 4 : Nat), .int .u32 (fo b 8 : Nat), .int .i64 (B b 12 : Nat), .bool f1, .bool f2, .string ⟨((b.drop 15).take (15 + N - 15)).toArray⟩] := by
    unfold ps pgV
    simp only [hf1, hf2, hN]
    rw [show 15 + N - 15 = N from by omega]
  have HPS := Lib.hid hps
  have hz := zero_pg
  clear hps hf1 hf2 hb
  go_enter Try.func23, Try.ntmps23
  go_wp2_with fail
  refine mf_start (PsI w b) (fun i => i == 22) HI.out.drew fun hS => ?_
  refine mf_yield (i := 0) (d := 8) (.slice ((some ⟨w.heap.size, 4, none⟩)) 60 60) rfl rfl (by kernel_rfl) (by kernel_rfl) (by kernel_rfl) (by kernel_rfl) hS (y_cutl (j := 4) (by rfl) rfl rfl rfl Try.underlying27 (by kernel_rfl) rfl (by omega)) ?_
  simp only [Act.put, List.setIfInBounds_toArray, List.set_cons_zero, List.set_cons_succ]
  refine mf_yield (i := 1) (d := 9) (.string ⟨((b.drop 4).take 60).toArray⟩) rfl rfl (by kernel_rfl) (by kernel_rfl) (by kernel_rfl) (by kernel_rfl) hS (y_text (by rfl) rfl rfl (fun w' h => h.2.1) (by rw [HBL.out]; omega)) ?_
  simp only [Act.put, List.setIfInBounds_toArray, List.set_cons_zero, List.set_cons_succ]
  refine mf_yield (i := 3) (d := 11) (.slice ((some ⟨w.heap.size, 8, none⟩)) 56 56) rfl rfl (by kernel_rfl) (by kernel_rfl) (by kernel_rfl) (by kernel_rfl) hS (y_cutl (j := 8) (by rfl) rfl rfl rfl Try.underlying27 (by kernel_rfl) rfl (by omega)) ?_
  simp only [Act.put, List.setIfInBounds_toArray, List.set_cons_zero, List.set_cons_succ]
  refine mf_yield (i := 4) (d := 12) (.string ⟨((b.drop 8).take 56).toArray⟩) rfl rfl (by kernel_rfl) (by kernel_rfl) (by kernel_rfl) (by kernel_rfl) hS (y_text (by rfl) rfl rfl (fun w' h => h.2.1) (by rw [HBL.out]; omega)) ?_
  simp only [Act.put, List.setIfInBounds_toArray, List.set_cons_zero, List.set_cons_succ]
  refine mf_yield (i := 6) (d := 14) (.pointer (some ⟨w.heap.size, 12, none⟩)) rfl rfl (by kernel_rfl) (by kernel_rfl) (by kernel_rfl) (by kernel_rfl) hS (y_ax (k := 12) (m := 1) (by rfl) rfl rfl rfl Try.underlying27 (by kernel_rfl) rfl (by omega) (by omega)) ?_
  simp only [Act.put, List.setIfInBounds_toArray, List.set_cons_zero, List.set_cons_succ]
  refine mf_yield (i := 7) (d := 15) (.int .u8 (B b 12)) rfl rfl (by kernel_rfl) (by kernel_rfl) (by kernel_rfl) (by kernel_rfl) hS (y_byte (by rfl) rfl rfl (fun w' h => h.2.1) (by rw [HBL.out]; omega)) ?_
  simp only [Act.put, List.setIfInBounds_toArray, List.set_cons_zero, List.set_cons_succ]
  refine mf_yield (i := 8) (d := 16) (.int .i64 (B b 12)) rfl rfl (by kernel_rfl) (by kernel_rfl) (by kernel_rfl) (by kernel_rfl) hS (y_int8 (by rfl) rfl rfl (B_lt _ _)) ?_
  simp only [Act.put, List.setIfInBounds_toArray, List.set_cons_zero, List.set_cons_succ]
  refine mf_yield (i := 9) (d := 17) (.pointer (some ⟨w.heap.size, 13, none⟩)) rfl rfl (by kernel_rfl) (by kernel_rfl) (by kernel_rfl) (by kernel_rfl) hS (y_ax (k := 13) (m := 1) (by rfl) rfl rfl rfl Try.underlying27 (by kernel_rfl) rfl (by omega) (by omega)) ?_
  simp only [Act.put, List.setIfInBounds_toArray, List.set_cons_zero, List.set_cons_succ]
  refine mf_yield (i := 10) (d := 18) (.int .u8 (B b 13)) rfl rfl (by kernel_rfl) (by kernel_rfl) (by kernel_rfl) (by kernel_rfl) hS (y_byte (by rfl) rfl rfl (fun w' h => h.2.1) (by rw [HBL.out]; omega)) ?_
  simp only [Act.put, List.setIfInBounds_toArray, List.set_cons_zero, List.set_cons_succ]
  refine mf_yield (i := 11) (d := 19) (.int .u8 ((B b 13 &&& 1 : Nat))) rfl rfl (by kernel_rfl) (by kernel_rfl) (by kernel_rfl) (by kernel_rfl) hS (y_and8 (by rfl) rfl rfl rfl (B_lt _ _) (by omega)) ?_
  simp only [Act.put, List.setIfInBounds_toArray, List.set_cons_zero, List.set_cons_succ]
  refine mf_yield (i := 12) (d := 20) (.bool f1) rfl rfl (by kernel_rfl) (by kernel_rfl) (by kernel_rfl) (by kernel_rfl) hS (y_neqK (by rfl) rfl Try.underlying5 rfl rfl HF1.out) ?_
  simp only [Act.put, List.setIfInBounds_toArray, List.set_cons_zero, List.set_cons_succ]
  refine mf_yield (i := 13) (d := 21) (.pointer (some ⟨w.heap.size, 13, none⟩)) rfl rfl (by kernel_rfl) (by kernel_rfl) (by kernel_rfl) (by kernel_rfl) hS (y_ax (k := 13) (m := 1) (by rfl) rfl rfl rfl Try.underlying27 (by kernel_rfl) rfl (by omega) (by omega)) ?_
  simp only [Act.put, List.setIfInBounds_toArray, List.set_cons_zero, List.set_cons_succ]
  refine mf_yield (i := 14) (d := 22) (.int .u8 (B b 13)) rfl rfl (by kernel_rfl) (by kernel_rfl) (by kernel_rfl) (by kernel_rfl) hS (y_byte (by rfl) rfl rfl (fun w' h => h.2.1) (by rw [HBL.out]; omega)) ?_
  simp only [Act.put, List.setIfInBounds_toArray, List.set_cons_zero, List.set_cons_succ]
  refine mf_yield (i := 15) (d := 23) (.int .u8 ((B b 13 &&& 2 : Nat))) rfl rfl (by kernel_rfl) (by kernel_rfl) (by kernel_rfl) (by kernel_rfl) hS (y_and8 (by rfl) rfl rfl rfl (B_lt _ _) (by omega)) ?_
  simp only [Act.put, List.setIfInBounds_toArray, List.set_cons_zero, List.set_cons_succ]
  refine mf_yield (i := 16) (d := 24) (.bool f2) rfl rfl (by kernel_rfl) (by kernel_rfl) (by kernel_rfl) (by kernel_rfl) hS (y_neqK (by rfl) rfl Try.underlying5 rfl rfl HF2.out) ?_
  simp only [Act.put, List.setIfInBounds_toArray, List.set_cons_zero, List.set_cons_succ]
  refine mf_yield (i := 17) (d := 25) (.int .i64 N) rfl rfl (by kernel_rfl) (by kernel_rfl) (by kernel_rfl) (by kernel_rfl) hS (y_run (by rfl) fun _ => by rfl) ?_
  simp only [Act.put, List.setIfInBounds_toArray, List.set_cons_zero, List.set_cons_succ]
  refine mf_yield (i := 18) (d := 26) (.int .i64 (15 + (N : Int))) rfl rfl (by kernel_rfl) (by kernel_rfl) (by kernel_rfl) (by kernel_rfl) hS (y_add (by rfl) rfl rfl rfl (IntWalk.i64_in _ (by omega))) ?_
  simp only [Act.put, List.setIfInBounds_toArray, List.set_cons_zero, List.set_cons_succ]
  refine mf_yield (i := 19) (d := 27) (.slice ((some ⟨w.heap.size, 15, none⟩)) ((15 + N - 15)) 49) rfl rfl (by kernel_rfl) (by kernel_rfl) (by kernel_rfl) (by kernel_rfl) hS (y_cutlh (j := 15) (i := 15 + N) (by rfl) rfl rfl rfl rfl Try.underlying27 (by kernel_rfl) rfl (by push_cast; rfl) (by omega) (by omega) (by omega)) ?_
  simp only [Act.put, List.setIfInBounds_toArray, List.set_cons_zero, List.set_cons_succ]
  refine mf_yield (i := 20) (d := 28) (.string ⟨((b.drop 15).take (15 + N - 15)).toArray⟩) rfl rfl (by kernel_rfl) (by kernel_rfl) (by kernel_rfl) (by kernel_rfl) hS (y_text (by rfl) rfl rfl (fun w' h => h.2.1) (by rw [HBL.out]; omega)) ?_
  simp only [Act.put, List.setIfInBounds_toArray, List.set_cons_zero, List.set_cons_succ]
  refine mf_ready [2] (by kernel_rfl) (by simp) (af_call (i := 2) (d := 10) (R := fun v w' => v = .int .u32 (fo b 4 : Nat) ∧ PsI w b w') #[.string ⟨((b.drop 4).take 60).toArray⟩] rfl rfl (by rfl) rfl enter_number (by kernel_rfl) ((number_fo b 4 60 HBL.out (by omega) (by omega) _).mono fun e w' h => ⟨_, h.1, rfl, h.2 ▸ hS⟩) (fun v w' h => h.2) ?_ AllReadyF.nil)
  rintro v w2 ⟨rfl, h2⟩ hS2
  clear hS h2
  have hS := hS2
  clear hS2
  simp only [Act.put, List.setIfInBounds_toArray, List.set_cons_zero, List.set_cons_succ]
  refine mf_ready [5] (by kernel_rfl) (by simp) (af_call (i := 5) (d := 13) (R := fun v w' => v = .int .u32 (fo b 8 : Nat) ∧ PsI w b w') #[.string ⟨((b.drop 8).take 56).toArray⟩] rfl rfl (by rfl) rfl enter_number (by kernel_rfl) ((number_fo b 8 56 HBL.out (by omega) (by omega) _).mono fun e w' h => ⟨_, h.1, rfl, h.2 ▸ hS⟩) (fun v w' h => h.2) ?_ AllReadyF.nil)
  rintro v w5 ⟨rfl, h5⟩ hS5
  clear hS h5
  have hS := hS5
  clear hS5
  simp only [Act.put, List.setIfInBounds_toArray, List.set_cons_zero, List.set_cons_succ]
  refine mf_one (i := 21) (d := 29) (.agg (pgV (ps b))) rfl rfl (by kernel_rfl) hS (by rw [HPS.out]; exact y_build_parts (L := [(0, .tmp 10), (1, .tmp 13), (2, .tmp 16), (3, .tmp 20), (4, .tmp 24), (5, .tmp 28)]) (by rfl) rfl _ rfl (built_pg _ _ _ _ _ _)) ?_
  simp only [Act.put, List.setIfInBounds_toArray, List.set_cons_zero, List.set_cons_succ]
  refine mf_ready [22] (by kernel_rfl) (by simp) (af_store (i := 22) (w.heap.size + 1) (pgV (ps b)) (pgV Pv.zero) rfl rfl (by rfl) rfl rfl rfl rfl hS.2.2 rfl (pgV_one _) (info_pg rfl) ?_ AllReadyF.nil)
  refine mf_done (by kernel_rfl) ?_
  have HB := Lib.hid (below_setRow' hS.1 (Nat.le_succ _) (pgV (ps b)))
  have HA := Lib.hid (At.setRow (C := pgV (ps b)) hS.2.2)
  clear hS
  go_wp2_with fail
  exact bodyPost_ret (v := .agg (pgV (ps b))) (results_any_one rfl _ _ (w.heap.size + 1) (pgV (ps b)) _ rfl HA.out Try.underlying31 rfl (info_pg rfl)) rfl ⟨rfl, HB.out⟩
end Go.Proofs.Yteahbdnnieaaaaa.Pa
