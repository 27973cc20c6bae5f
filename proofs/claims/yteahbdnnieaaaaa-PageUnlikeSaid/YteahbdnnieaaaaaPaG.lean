/- The document's Read. -/
import Derived.Test.YteahbdnnieaaaaaPaF
set_option maxRecDepth 100000
set_option linter.unusedVariables false
set_option linter.unusedSimpArgs false
namespace Go.Proofs.Yteahbdnnieaaaaa.Pa
open Go.RowKit Go.Proofs.Yteahbdnnieaaaaa.Row Go.Proofs.Yteahbdnnieaaaaa.Crc

theorem zero_rp (w : World) : (zeroValue 24).run Try.prog w = .ok (.agg (pgV Pv.zero)) w := by kernel_rfl
theorem built_rz : Try.prog.built 24 [] = some (pgV Pv.zero) := by kernel_rfl
theorem built_rp (a c k : Int) (x y : Bool) (s : ByteArray) : Try.prog.built 24 [(0, .int .u32 a), (1, .int .u32 c), (2, .int .i64 k), (3, .bool x), (4, .bool y), (5, .string s)] = some #[.int .u32 a, .int .u32 c, .int .i64 k, .bool x, .bool y, .string s] := by kernel_rfl
theorem enter_rfo (args : Array Value) (w : World) : (callFunc 24 args).run Try.prog w = .ok (.enter 24 args) w := run_enter Try.func24 (by kernel_rfl) rfl args w
theorem enter_rsum (args : Array Value) (w : World) : (callFunc 15 args).run Try.prog w = .ok (.enter 15 args) w := run_enter Try.func15 (by kernel_rfl) rfl args w
theorem rsum_as (b : List UInt8) (hb : b.length = 64) (w : World) :
    Calls Try.prog 15 #[.string ⟨((b.drop 4).take 60).toArray⟩] w fun e w' => e = .returned (.int .u32 (moreS 0 (b.drop 4) : Nat)) ∧ w = w' := by
  have ht : ((b.drop 4).take 60) = b.drop 4 := List.take_of_length_le (by rw [List.length_drop]; omega)
  rw [ht]
  exact refSum_any ⟨(b.drop 4).toArray⟩ w (by rw [size_list]; show (b.drop 4).length ≤ _; rw [List.length_drop]; unfold maxLen; omega)
theorem y_rem8 {ops : Array Oper} {S : World → Prop} {a : Act} {oi : Oper} {t t' : TypeId} {y z : Operand} {m : Nat} (hw : Region.wanted oi (yielded ops a.tmps) = true) (ho : oi.op = .binOp .rem t y z t') (hy : a.eval y = .int .u8 (m : Nat)) (hz : a.eval z = .int .u8 2) (hm : m < 256) : YieldsIf Try.prog ops S oi (.int .u8 ((m % 2 : Nat))) a :=
  y_run hw fun w => by
    have hr : IntKind.u8.wrap ((m : Int).tmod 2) = ((m % 2 : Nat) : Int) := by
      rw [IntWalk.u8_in _ (by rw [Int.tmod_eq_emod_of_nonneg (by omega)]; omega), Int.tmod_eq_emod_of_nonneg (by omega)]
      omega
    have hr' : (m : Int).tmod 2 = ((m % 2 : Nat) : Int) := by rw [Int.tmod_eq_emod_of_nonneg (by omega)]; omega
    unfold execOp
    simp only [ho, hy, hz]
    simp [go_sem, hr, hr']
theorem rem_dec (m : Nat) : (((m % 2 : Nat) : Int) == 1) = decide (m % 2 = 1) := by
  by_cases h : m % 2 = 1
  · rw [h]; rfl
  · rw [decide_eq_false h, beq_eq_false_iff_ne]; omega
theorem good_of {b : List UInt8} (h : FormOk b) : 1 ≤ B b 12 ∧ B b 12 ≤ 2 ∧ B b 13 ≤ 3 ∧ (B b 12 ≠ 1 ∨ B b 13 = 0) ∧ 1 ≤ B b 14 ∧ B b 14 ≤ 49 := by
  obtain ⟨h1, h2, h3, h4, h5, h6, h7⟩ := h
  refine ⟨h1, h2, h3, ?_, h5, h6⟩
  by_cases e : B b 12 = 1
  · exact .inr (h4 e)
  · exact .inl e
/-- While the document reads. -/
def RrI (w : World) (b : List UInt8) (w' : World) : Prop := Below w.heap.size w w' ∧ At w' w.heap.size (bl b) 26 ∧ At w' (w.heap.size + 1) (pgV Pv.zero) 24
theorem RrI.next {w w1 w2 : World} {b : List UInt8} (h : RrI w b w1) (hb : Below w1.heap.size w1 w2) : RrI w b w2 := ⟨below_trans h.1 hb h.1.size, h.2.1.below hb h.2.1.lt, h.2.2.below hb h.2.2.lt⟩
theorem RrI.drew {w w1 : World} {b : List UInt8} (h : RrI w b w1) : RrI w b w1.drew := h.next (Below.refl _ _).drew

set_option maxHeartbeats 400000 in
theorem rr_sum (b : List UInt8) (w : World) (hb : b.length = 64) (hs : ¬ SumOk b) :
    Calls Try.prog 18 #[.agg (bl b)] w fun e w' => e = .returned (.tuple #[.agg (pgV Pv.zero), .int .i64 3]) ∧ Below w.heap.size w w' := by
  have HBL := Lib.hid hb
  have HD := Lib.hid (ne_true hs)
  clear hs
  have HI := Lib.hid (show RrI w b ((w.alloc (.cells (bl b) 26)).alloc (.cells (pgV Pv.zero) 24)) from ⟨below_second _ _ _, (At.new w (bl b) _).alloc _, at_second w _ _ _⟩)
  have HZ1 := Lib.hid (pgV_one Pv.zero)
  have hz := zero_rp
  have hbt := built_rz
  obtain ⟨T, hT⟩ : ∃ T, pgV Pv.zero = T := ⟨_, rfl⟩
  have HT := Lib.hid hT
  have hTs : T.size = 6 := by rw [← hT]; rfl
  have HTS := Lib.hid hTs
  rw [hT] at HZ1 hz hbt HI
  clear hb hTs hT
  go_enter Try.func18, Try.ntmps18
  go_wp2_with fail
  refine mf_start (RrI w b) (fun _ => false) HI.out.drew fun hS => ?_
  refine mf_yield (i := 0) (d := 6) (.agg (bl b)) rfl rfl (by kernel_rfl) (by kernel_rfl) (by kernel_rfl) (by kernel_rfl) hS (y_load_w (by rfl) rfl rfl (fun w' h => h.2.1) Try.underlying26 rfl (info_64 (by rw [bl_size, HBL.out]))) ?_
  simp only [Act.put, List.setIfInBounds_toArray, List.set_cons_zero, List.set_cons_succ]
  refine mf_yield (i := 2) (d := 8) (.slice ((some ⟨w.heap.size, 4, none⟩)) 60 60) rfl rfl (by kernel_rfl) (by kernel_rfl) (by kernel_rfl) (by kernel_rfl) hS (y_cutl (j := 4) (by rfl) rfl rfl rfl Try.underlying26 (by kernel_rfl) rfl (by omega)) ?_
  simp only [Act.put, List.setIfInBounds_toArray, List.set_cons_zero, List.set_cons_succ]
  refine mf_yield (i := 3) (d := 9) (.string ⟨((b.drop 4).take 60).toArray⟩) rfl rfl (by kernel_rfl) (by kernel_rfl) (by kernel_rfl) (by kernel_rfl) hS (y_text (by rfl) rfl rfl (fun w' h => h.2.1) (by rw [HBL.out]; omega)) ?_
  simp only [Act.put, List.setIfInBounds_toArray, List.set_cons_zero, List.set_cons_succ]
  refine mf_ready [1] (by kernel_rfl) (by simp) (af_call (i := 1) (d := 7) (R := fun v w' => v = .int .u32 (fo b 0 : Nat) ∧ RrI w b w') #[.agg (bl b), .int .i64 0] rfl rfl (by rfl) rfl enter_rfo (by kernel_rfl) ((refFo_any b (bl b) (byts_bl HBL.out) 0 (by omega) _).mono fun e w' h => ⟨_, h.1, rfl, hS.next h.2⟩) (fun v w' h => h.2) ?_ AllReadyF.nil)
  rintro v w2 ⟨rfl, h2⟩ hS1
  clear hS1
  simp only [Act.put, List.setIfInBounds_toArray, List.set_cons_zero, List.set_cons_succ]
  refine mf_ready [4] (by kernel_rfl) (by simp) (af_call (i := 4) (d := 10) (R := fun v w' => v = .int .u32 (moreS 0 (b.drop 4) : Nat) ∧ RrI w b w') #[.string ⟨((b.drop 4).take 60).toArray⟩] rfl rfl (by rfl) rfl enter_rsum (by kernel_rfl) ((rsum_as b HBL.out _).mono fun e w' h => ⟨_, h.1, rfl, h.2 ▸ h2⟩) (fun v w' h => h.2) ?_ AllReadyF.nil)
  rintro v w3 ⟨rfl, h3⟩ hS3
  clear h2 hS
  simp only [Act.put, List.setIfInBounds_toArray, List.set_cons_zero, List.set_cons_succ]
  refine mf_one (i := 5) (d := 11) (.bool true) rfl rfl (by kernel_rfl) hS3 (y_neqK (by rfl) rfl Try.underlying22 rfl rfl HD.out) ?_
  simp only [Act.put, List.setIfInBounds_toArray, List.set_cons_zero, List.set_cons_succ]
  refine mf_done (by kernel_rfl) ?_
  have HI3 := Lib.hid h3
  have HA2 := Lib.hid (show At w3 (w.heap.size + 1) T 24 from HT.out ▸ h3.2.2)
  have HA1 := Lib.hid h3.2.1
  clear h3 hS3 HI HD
  go_wp2_with (first
    | (refine wpList_build_parts (by rfl) 24 [] rfl _ rfl hbt ?_)
    | (refine wpList_store_row rfl 24 _ _ rfl (w.heap.size + 1) T rfl rfl _ _ HA2.out (info_rp HTS.out) (by rw [← HT.out]) HZ1.out ?_)
    | fail)
  rw [HT.out]
  exact bodyPost_ret (v := .tuple #[.agg T, .int .i64 3]) (results_any_int rfl _ _ (w.heap.size + 1) T _ rfl rfl (At.setRow HA2.out) Try.underlying24 rfl (info_rp HTS.out)) rfl ⟨rfl, below_setRow' HI3.out.1 (by omega) _⟩

set_option maxHeartbeats 400000 in
theorem rr_bad (b : List UInt8) (w : World) (hb : b.length = 64) (hs : SumOk b) (hf : ¬ (1 ≤ B b 12 ∧ B b 12 ≤ 2 ∧ B b 13 ≤ 3 ∧ (B b 12 ≠ 1 ∨ B b 13 = 0) ∧ 1 ≤ B b 14 ∧ B b 14 ≤ 49)) :
    Calls Try.prog 18 #[.agg (bl b)] w fun e w' => e = .returned (.tuple #[.agg (pgV Pv.zero), .int .i64 4]) ∧ Below w.heap.size w w' := by
  have HBL := Lib.hid hb
  have HD := Lib.hid (ne_false hs)
  have HBAD := Lib.hid hf
  clear hs hf
  have HI := Lib.hid (show RrI w b ((w.alloc (.cells (bl b) 26)).alloc (.cells (pgV Pv.zero) 24)) from ⟨below_second _ _ _, (At.new w (bl b) _).alloc _, at_second w _ _ _⟩)
  have HZ1 := Lib.hid (pgV_one Pv.zero)
  have hz := zero_rp
  have hbt := built_rz
  obtain ⟨T, hT⟩ : ∃ T, pgV Pv.zero = T := ⟨_, rfl⟩
  have HT := Lib.hid hT
  have hTs : T.size = 6 := by rw [← hT]; rfl
  have HTS := Lib.hid hTs
  rw [hT] at HZ1 hz hbt HI
  clear hb hTs hT
  go_enter Try.func18, Try.ntmps18
  go_wp2_with fail
  refine mf_start (RrI w b) (fun _ => false) HI.out.drew fun hS => ?_
  refine mf_yield (i := 0) (d := 6) (.agg (bl b)) rfl rfl (by kernel_rfl) (by kernel_rfl) (by kernel_rfl) (by kernel_rfl) hS (y_load_w (by rfl) rfl rfl (fun w' h => h.2.1) Try.underlying26 rfl (info_64 (by rw [bl_size, HBL.out]))) ?_
  simp only [Act.put, List.setIfInBounds_toArray, List.set_cons_zero, List.set_cons_succ]
  refine mf_yield (i := 2) (d := 8) (.slice ((some ⟨w.heap.size, 4, none⟩)) 60 60) rfl rfl (by kernel_rfl) (by kernel_rfl) (by kernel_rfl) (by kernel_rfl) hS (y_cutl (j := 4) (by rfl) rfl rfl rfl Try.underlying26 (by kernel_rfl) rfl (by omega)) ?_
  simp only [Act.put, List.setIfInBounds_toArray, List.set_cons_zero, List.set_cons_succ]
  refine mf_yield (i := 3) (d := 9) (.string ⟨((b.drop 4).take 60).toArray⟩) rfl rfl (by kernel_rfl) (by kernel_rfl) (by kernel_rfl) (by kernel_rfl) hS (y_text (by rfl) rfl rfl (fun w' h => h.2.1) (by rw [HBL.out]; omega)) ?_
  simp only [Act.put, List.setIfInBounds_toArray, List.set_cons_zero, List.set_cons_succ]
  refine mf_ready [1] (by kernel_rfl) (by simp) (af_call (i := 1) (d := 7) (R := fun v w' => v = .int .u32 (fo b 0 : Nat) ∧ RrI w b w') #[.agg (bl b), .int .i64 0] rfl rfl (by rfl) rfl enter_rfo (by kernel_rfl) ((refFo_any b (bl b) (byts_bl HBL.out) 0 (by omega) _).mono fun e w' h => ⟨_, h.1, rfl, hS.next h.2⟩) (fun v w' h => h.2) ?_ AllReadyF.nil)
  rintro v w2 ⟨rfl, h2⟩ hS1
  clear hS1
  simp only [Act.put, List.setIfInBounds_toArray, List.set_cons_zero, List.set_cons_succ]
  refine mf_ready [4] (by kernel_rfl) (by simp) (af_call (i := 4) (d := 10) (R := fun v w' => v = .int .u32 (moreS 0 (b.drop 4) : Nat) ∧ RrI w b w') #[.string ⟨((b.drop 4).take 60).toArray⟩] rfl rfl (by rfl) rfl enter_rsum (by kernel_rfl) ((rsum_as b HBL.out _).mono fun e w' h => ⟨_, h.1, rfl, h.2 ▸ h2⟩) (fun v w' h => h.2) ?_ AllReadyF.nil)
  rintro v w3 ⟨rfl, h3⟩ hS3
  clear h2 hS
  simp only [Act.put, List.setIfInBounds_toArray, List.set_cons_zero, List.set_cons_succ]
  refine mf_one (i := 5) (d := 11) (.bool false) rfl rfl (by kernel_rfl) hS3 (y_neqK (by rfl) rfl Try.underlying22 rfl rfl HD.out) ?_
  simp only [Act.put, List.setIfInBounds_toArray, List.set_cons_zero, List.set_cons_succ]
  refine mf_done (by kernel_rfl) ?_
  have HI3 := Lib.hid h3
  have HA2 := Lib.hid (show At w3 (w.heap.size + 1) T 24 from HT.out ▸ h3.2.2)
  have HA1 := Lib.hid h3.2.1
  clear h3 hS3 HI HD
  have c12 : w3.cell? ⟨w.heap.size, 12, none⟩ = some (.int .u8 (B b 12)) := by rw [cell_of_row _ _ _ _ _ _ HA1.out, bl_at b 12 (by rw [HBL.out]; omega)]
  have c13 : w3.cell? ⟨w.heap.size, 13, none⟩ = some (.int .u8 (B b 13)) := by rw [cell_of_row _ _ _ _ _ _ HA1.out, bl_at b 13 (by rw [HBL.out]; omega)]
  have c14 : w3.cell? ⟨w.heap.size, 14, none⟩ = some (.int .u8 (B b 14)) := by rw [cell_of_row _ _ _ _ _ _ HA1.out, bl_at b 14 (by rw [HBL.out]; omega)]
  have l12 := B_lt b 12
  have l13 := B_lt b 13
  have l14 := B_lt b 14
  obtain ⟨x12, h12⟩ : ∃ x, B b 12 = x := ⟨_, rfl⟩
  obtain ⟨x13, h13⟩ : ∃ x, B b 13 = x := ⟨_, rfl⟩
  obtain ⟨N, h14⟩ : ∃ x, B b 14 = x := ⟨_, rfl⟩
  rw [h12] at c12 l12
  rw [h13] at c13 l13
  rw [h14] at c14 l14
  rw [h12, h13, h14] at HBAD
  have hbad := HBAD.out
  clear h12 h13 h14 HBAD
  have key : (x12 < 1) ∨ (¬ x12 < 1 ∧ 2 < x12) ∨ (¬ x12 < 1 ∧ ¬ 2 < x12 ∧ 3 < x13) ∨ (¬ x12 < 1 ∧ ¬ 2 < x12 ∧ ¬ 3 < x13 ∧ ((x12 : Int) == 1) = true ∧ ((x13 : Int) != 0) = true) ∨ (¬ x12 < 1 ∧ ¬ 2 < x12 ∧ ¬ 3 < x13 ∧ ((x12 : Int) == 1) = true ∧ ((x13 : Int) != 0) = false ∧ N < 1) ∨ (¬ x12 < 1 ∧ ¬ 2 < x12 ∧ ¬ 3 < x13 ∧ ((x12 : Int) == 1) = true ∧ ((x13 : Int) != 0) = false ∧ ¬ N < 1 ∧ 49 < N) ∨ (¬ x12 < 1 ∧ ¬ 2 < x12 ∧ ¬ 3 < x13 ∧ ((x12 : Int) == 1) = false ∧ N < 1) ∨ (¬ x12 < 1 ∧ ¬ 2 < x12 ∧ ¬ 3 < x13 ∧ ((x12 : Int) == 1) = false ∧ ¬ N < 1 ∧ 49 < N) := by
    by_cases a1 : x12 < 1
    · exact .inl a1
    by_cases a2 : 2 < x12
    · exact .inr (.inl ⟨a1, a2⟩)
    by_cases a3 : 3 < x13
    · exact .inr (.inr (.inl ⟨a1, a2, a3⟩))
    by_cases e : x12 = 1
    · have h1 : ((x12 : Int) == 1) = true := by rw [e]; rfl
      by_cases e2 : x13 = 0
      · have h2 : ((x13 : Int) != 0) = false := by rw [e2]; rfl
        by_cases a4 : N < 1
        · exact .inr (.inr (.inr (.inr (.inl ⟨a1, a2, a3, h1, h2, a4⟩))))
        · exact .inr (.inr (.inr (.inr (.inr (.inl ⟨a1, a2, a3, h1, h2, a4, by omega⟩)))))
      · have h2 : ((x13 : Int) != 0) = true := by rw [bne_iff_ne]; omega
        exact .inr (.inr (.inr (.inl ⟨a1, a2, a3, h1, h2⟩)))
    · have h1 : ((x12 : Int) == 1) = false := by rw [beq_eq_false_iff_ne]; omega
      by_cases a4 : N < 1
      · exact .inr (.inr (.inr (.inr (.inr (.inr (.inl ⟨a1, a2, a3, h1, a4⟩))))))
      · exact .inr (.inr (.inr (.inr (.inr (.inr (.inr ⟨a1, a2, a3, h1, a4, by omega⟩))))))
  clear hbad
  rcases key with k | ⟨k1, k⟩ | ⟨k1, k2, k⟩ | ⟨k1, k2, k3, k4, k⟩ | ⟨k1, k2, k3, k4, k5, k⟩ | ⟨k1, k2, k3, k4, k5, k6, k⟩ | ⟨k1, k2, k3, k4, k⟩ | ⟨k1, k2, k3, k4, k5, k⟩
  all_goals
    go_upto_region 5 with fail
    go_wp2_with (first
      | (refine wpList_build_parts (by rfl) 24 [] rfl _ rfl hbt ?_)
      | (refine wpList_store_row rfl 24 _ _ rfl (w.heap.size + 1) T rfl rfl _ _ HA2.out (info_rp HTS.out) (by rw [← HT.out]) HZ1.out ?_)
      | fail)
    rw [HT.out]
    exact bodyPost_ret (v := .tuple #[.agg T, .int .i64 4]) (results_any_int rfl _ _ (w.heap.size + 1) T _ rfl rfl (At.setRow HA2.out) Try.underlying24 rfl (info_rp HTS.out)) rfl ⟨rfl, below_setRow' HI3.out.1 (by omega) _⟩

set_option maxHeartbeats 400000 in
theorem rr_tail (b : List UInt8) (w : World) (hb : b.length = 64) (hs : SumOk b) (hf : 1 ≤ B b 12 ∧ B b 12 ≤ 2 ∧ B b 13 ≤ 3 ∧ (B b 12 ≠ 1 ∨ B b 13 = 0) ∧ 1 ≤ B b 14 ∧ B b 14 ≤ 49) (j : Nat) (hj : 15 + B b 14 ≤ j) (hj64 : j < 64) (hz0 : ∀ i, 15 + B b 14 ≤ i → i < j → B b i = 0) (hjn : B b j ≠ 0) :
    Calls Try.prog 18 #[.agg (bl b)] w fun e w' => e = .returned (.tuple #[.agg (pgV Pv.zero), .int .i64 4]) ∧ Below w.heap.size w w' := by
  have HBL := Lib.hid hb
  have HD := Lib.hid (ne_false hs)
  have HGOOD := Lib.hid hf
  have HJ0 := Lib.hid hj
  have HJ1 := Lib.hid hj64
  have HJZ := Lib.hid hz0
  have HJN := Lib.hid hjn
  clear hs hf hj hj64 hz0 hjn
  have HI := Lib.hid (show RrI w b ((w.alloc (.cells (bl b) 26)).alloc (.cells (pgV Pv.zero) 24)) from ⟨below_second _ _ _, (At.new w (bl b) _).alloc _, at_second w _ _ _⟩)
  have HZ1 := Lib.hid (pgV_one Pv.zero)
  have hz := zero_rp
  have hbt := built_rz
  obtain ⟨T, hT⟩ : ∃ T, pgV Pv.zero = T := ⟨_, rfl⟩
  have HT := Lib.hid hT
  have hTs : T.size = 6 := by rw [← hT]; rfl
  have HTS := Lib.hid hTs
  rw [hT] at HZ1 hz hbt HI
  clear hb hTs hT
  go_enter Try.func18, Try.ntmps18
  go_wp2_with fail
  refine mf_start (RrI w b) (fun _ => false) HI.out.drew fun hS => ?_
  refine mf_yield (i := 0) (d := 6) (.agg (bl b)) rfl rfl (by kernel_rfl) (by kernel_rfl) (by kernel_rfl) (by kernel_rfl) hS (y_load_w (by rfl) rfl rfl (fun w' h => h.2.1) Try.underlying26 rfl (info_64 (by rw [bl_size, HBL.out]))) ?_
  simp only [Act.put, List.setIfInBounds_toArray, List.set_cons_zero, List.set_cons_succ]
  refine mf_yield (i := 2) (d := 8) (.slice ((some ⟨w.heap.size, 4, none⟩)) 60 60) rfl rfl (by kernel_rfl) (by kernel_rfl) (by kernel_rfl) (by kernel_rfl) hS (y_cutl (j := 4) (by rfl) rfl rfl rfl Try.underlying26 (by kernel_rfl) rfl (by omega)) ?_
  simp only [Act.put, List.setIfInBounds_toArray, List.set_cons_zero, List.set_cons_succ]
  refine mf_yield (i := 3) (d := 9) (.string ⟨((b.drop 4).take 60).toArray⟩) rfl rfl (by kernel_rfl) (by kernel_rfl) (by kernel_rfl) (by kernel_rfl) hS (y_text (by rfl) rfl rfl (fun w' h => h.2.1) (by rw [HBL.out]; omega)) ?_
  simp only [Act.put, List.setIfInBounds_toArray, List.set_cons_zero, List.set_cons_succ]
  refine mf_ready [1] (by kernel_rfl) (by simp) (af_call (i := 1) (d := 7) (R := fun v w' => v = .int .u32 (fo b 0 : Nat) ∧ RrI w b w') #[.agg (bl b), .int .i64 0] rfl rfl (by rfl) rfl enter_rfo (by kernel_rfl) ((refFo_any b (bl b) (byts_bl HBL.out) 0 (by omega) _).mono fun e w' h => ⟨_, h.1, rfl, hS.next h.2⟩) (fun v w' h => h.2) ?_ AllReadyF.nil)
  rintro v w2 ⟨rfl, h2⟩ hS1
  clear hS1
  simp only [Act.put, List.setIfInBounds_toArray, List.set_cons_zero, List.set_cons_succ]
  refine mf_ready [4] (by kernel_rfl) (by simp) (af_call (i := 4) (d := 10) (R := fun v w' => v = .int .u32 (moreS 0 (b.drop 4) : Nat) ∧ RrI w b w') #[.string ⟨((b.drop 4).take 60).toArray⟩] rfl rfl (by rfl) rfl enter_rsum (by kernel_rfl) ((rsum_as b HBL.out _).mono fun e w' h => ⟨_, h.1, rfl, h.2 ▸ h2⟩) (fun v w' h => h.2) ?_ AllReadyF.nil)
  rintro v w3 ⟨rfl, h3⟩ hS3
  clear h2 hS
  simp only [Act.put, List.setIfInBounds_toArray, List.set_cons_zero, List.set_cons_succ]
  refine mf_one (i := 5) (d := 11) (.bool false) rfl rfl (by kernel_rfl) hS3 (y_neqK (by rfl) rfl Try.underlying22 rfl rfl HD.out) ?_
  simp only [Act.put, List.setIfInBounds_toArray, List.set_cons_zero, List.set_cons_succ]
  refine mf_done (by kernel_rfl) ?_
  have HI3 := Lib.hid h3
  have HA2 := Lib.hid (show At w3 (w.heap.size + 1) T 24 from HT.out ▸ h3.2.2)
  have HA1 := Lib.hid h3.2.1
  clear h3 hS3 HI HD
  have c12 : w3.cell? ⟨w.heap.size, 12, none⟩ = some (.int .u8 (B b 12)) := by rw [cell_of_row _ _ _ _ _ _ HA1.out, bl_at b 12 (by rw [HBL.out]; omega)]
  have c13 : w3.cell? ⟨w.heap.size, 13, none⟩ = some (.int .u8 (B b 13)) := by rw [cell_of_row _ _ _ _ _ _ HA1.out, bl_at b 13 (by rw [HBL.out]; omega)]
  have c14 : w3.cell? ⟨w.heap.size, 14, none⟩ = some (.int .u8 (B b 14)) := by rw [cell_of_row _ _ _ _ _ _ HA1.out, bl_at b 14 (by rw [HBL.out]; omega)]
  have l12 := B_lt b 12
  have l13 := B_lt b 13
  have l14 := B_lt b 14
  obtain ⟨x12, h12⟩ : ∃ x, B b 12 = x := ⟨_, rfl⟩
  obtain ⟨x13, h13⟩ : ∃ x, B b 13 = x := ⟨_, rfl⟩
  obtain ⟨N, h14⟩ : ∃ x, B b 14 = x := ⟨_, rfl⟩
  rw [h12] at c12 l12
  rw [h13] at c13 l13
  rw [h14] at c14 l14
  rw [h12, h13, h14] at HGOOD
  have HG := HGOOD
  have HX12 := Lib.hid h12
  have HX13 := Lib.hid h13
  have HX14 := Lib.hid h14
  have n1 : ¬ N < 1 := by have := HG.out; omega
  have n2 : ¬ 49 < N := by have := HG.out; omega
  clear h12 h13 h14 HGOOD
  go_upto_region 4 with fail
  go_cut [46] (fun s wx => s = .bool false ∧ w3 = wx)
  case first =>
    have a1 : ¬ x12 < 1 := by have := HG.out; omega
    have a2 : ¬ 2 < x12 := by have := HG.out; omega
    have a3 : ¬ 3 < x13 := by have := HG.out; omega
    by_cases e : x12 = 1
    · have h1 : ((x12 : Int) == 1) = true := by rw [e]; rfl
      have h2 : ((x13 : Int) != 0) = false := by
        have := HG.out
        have e2 : x13 = 0 := by omega
        rw [e2]; rfl
      clear e
      go_wp2_with fail
      go_meet
      exact ⟨by congr 1; simp; omega, rfl⟩
    · have h1 : ((x12 : Int) == 1) = false := by rw [beq_eq_false_iff_ne]; omega
      clear e
      go_wp2_with fail
      go_meet
      exact ⟨by congr 1; simp; omega, rfl⟩
  case rest =>
    obtain ⟨rfl, rfl⟩ := hcut
    clear c12 c13 c14
    go_upto_region 6 with fail
    go_wp2_with fail
    go_loop [5] (fun i => ∃ k : Nat, i = .int .i64 k ∧ 15 + N ≤ k ∧ k ≤ j) (fun i => 64 - (intOf i).toNat)
    case atStart => exact ⟨15 + N, by push_cast; rfl, Nat.le_refl _, by have := HJ0.out; rw [HX14.out] at this; exact this⟩
    case round =>
      obtain ⟨k, rfl, hk1, hk2⟩ := hrel
      by_cases hlt : k < j
      · have hk64 : k < 64 := by have := HJ1.out; omega
        have ck : w3.cell? ⟨w.heap.size, k, none⟩ = some (.int .u8 0) := by rw [cell_of_row _ _ _ _ _ _ HA1.out, bl_at b k (by rw [HBL.out]; omega), HJZ.out k (by rw [HX14.out]; omega) hlt]; rfl
        go_wp2
        go_round
        case rel => exact ⟨k + 1, by go_num, by omega, by omega⟩
        case measure => simp [intOf]; omega
      · obtain rfl : j = k := by omega
        have hj1 := HJ1.out
        have cj : w3.cell? ⟨w.heap.size, j, none⟩ = some (.int .u8 (B b j)) := by rw [cell_of_row _ _ _ _ _ _ HA1.out, bl_at b j (by rw [HBL.out]; omega)]
        have hne : ((B b j : Int) != 0) = true := by have := HJN.out; rw [bne_iff_ne]; omega
        have lj := B_lt b j
        generalize B b j = x at *
        go_upto_region 10 with fail
        go_wp2_with (first
            | (refine wpList_build_parts (by rfl) 24 [] rfl _ rfl hbt ?_)
            | (refine wpList_store_row rfl 24 _ _ rfl (w.heap.size + 1) T rfl rfl _ _ HA2.out (info_rp HTS.out) (by rw [← HT.out]) HZ1.out ?_)
            | fail)
        rw [HT.out]
        exact bodyPost_ret (v := .tuple #[.agg T, .int .i64 4]) (results_any_int rfl _ _ (w.heap.size + 1) T _ rfl rfl (At.setRow HA2.out) Try.underlying24 rfl (info_rp HTS.out)) rfl ⟨rfl, below_setRow' HI3.out.1 (by omega) _⟩

set_option maxHeartbeats 400000 in
theorem rr_yes (b : List UInt8) (w : World) (hb : b.length = 64) (hs : SumOk b) (hf : FormOk b) :
    Calls Try.prog 18 #[.agg (bl b)] w fun e w' => e = .returned (.tuple #[.agg (pgV (pg b)), .int .i64 0]) ∧ Below w.heap.size w w' := by
  have HBL := Lib.hid hb
  have HD := Lib.hid (ne_false hs)
  have HGOOD := Lib.hid (good_of hf)
  have HJZ := Lib.hid hf.2.2.2.2.2.2
  clear hs hf
  have HI := Lib.hid (show RrI w b ((w.alloc (.cells (bl b) 26)).alloc (.cells (pgV Pv.zero) 24)) from ⟨below_second _ _ _, (At.new w (bl b) _).alloc _, at_second w _ _ _⟩)
  have HZ1 := Lib.hid (pgV_one Pv.zero)
  have hz := zero_rp
  have hbt := built_rz
  obtain ⟨T, hT⟩ : ∃ T, pgV Pv.zero = T := ⟨_, rfl⟩
  have HT := Lib.hid hT
  have hTs : T.size = 6 := by rw [← hT]; rfl
  have HTS := Lib.hid hTs
  rw [hT] at HZ1 hz hbt HI
  clear hb hTs hT
  go_enter Try.func18, Try.ntmps18
  go_wp2_with fail
  refine mf_start (RrI w b) (fun _ => false) HI.out.drew fun hS => ?_
  refine mf_yield (i := 0) (d := 6) (.agg (bl b)) rfl rfl (by kernel_rfl) (by kernel_rfl) (by kernel_rfl) (by kernel_rfl) hS (y_load_w (by rfl) rfl rfl (fun w' h => h.2.1) Try.underlying26 rfl (info_64 (by rw [bl_size, HBL.out]))) ?_
  simp only [Act.put, List.setIfInBounds_toArray, List.set_cons_zero, List.set_cons_succ]
  refine mf_yield (i := 2) (d := 8) (.slice ((some ⟨w.heap.size, 4, none⟩)) 60 60) rfl rfl (by kernel_rfl) (by kernel_rfl) (by kernel_rfl) (by kernel_rfl) hS (y_cutl (j := 4) (by rfl) rfl rfl rfl Try.underlying26 (by kernel_rfl) rfl (by omega)) ?_
  simp only [Act.put, List.setIfInBounds_toArray, List.set_cons_zero, List.set_cons_succ]
  refine mf_yield (i := 3) (d := 9) (.string ⟨((b.drop 4).take 60).toArray⟩) rfl rfl (by kernel_rfl) (by kernel_rfl) (by kernel_rfl) (by kernel_rfl) hS (y_text (by rfl) rfl rfl (fun w' h => h.2.1) (by rw [HBL.out]; omega)) ?_
  simp only [Act.put, List.setIfInBounds_toArray, List.set_cons_zero, List.set_cons_succ]
  refine mf_ready [1] (by kernel_rfl) (by simp) (af_call (i := 1) (d := 7) (R := fun v w' => v = .int .u32 (fo b 0 : Nat) ∧ RrI w b w') #[.agg (bl b), .int .i64 0] rfl rfl (by rfl) rfl enter_rfo (by kernel_rfl) ((refFo_any b (bl b) (byts_bl HBL.out) 0 (by omega) _).mono fun e w' h => ⟨_, h.1, rfl, hS.next h.2⟩) (fun v w' h => h.2) ?_ AllReadyF.nil)
  rintro v w2 ⟨rfl, h2⟩ hS1
  clear hS1
  simp only [Act.put, List.setIfInBounds_toArray, List.set_cons_zero, List.set_cons_succ]
  refine mf_ready [4] (by kernel_rfl) (by simp) (af_call (i := 4) (d := 10) (R := fun v w' => v = .int .u32 (moreS 0 (b.drop 4) : Nat) ∧ RrI w b w') #[.string ⟨((b.drop 4).take 60).toArray⟩] rfl rfl (by rfl) rfl enter_rsum (by kernel_rfl) ((rsum_as b HBL.out _).mono fun e w' h => ⟨_, h.1, rfl, h.2 ▸ h2⟩) (fun v w' h => h.2) ?_ AllReadyF.nil)
  rintro v w3 ⟨rfl, h3⟩ hS3
  clear h2 hS
  simp only [Act.put, List.setIfInBounds_toArray, List.set_cons_zero, List.set_cons_succ]
  refine mf_one (i := 5) (d := 11) (.bool false) rfl rfl (by kernel_rfl) hS3 (y_neqK (by rfl) rfl Try.underlying22 rfl rfl HD.out) ?_
  simp only [Act.put, List.setIfInBounds_toArray, List.set_cons_zero, List.set_cons_succ]
  refine mf_done (by kernel_rfl) ?_
  have HI3 := Lib.hid h3
  have HA2 := Lib.hid (show At w3 (w.heap.size + 1) T 24 from HT.out ▸ h3.2.2)
  have HA1 := Lib.hid h3.2.1
  clear h3 hS3 HI HD
  have c12 : w3.cell? ⟨w.heap.size, 12, none⟩ = some (.int .u8 (B b 12)) := by rw [cell_of_row _ _ _ _ _ _ HA1.out, bl_at b 12 (by rw [HBL.out]; omega)]
  have c13 : w3.cell? ⟨w.heap.size, 13, none⟩ = some (.int .u8 (B b 13)) := by rw [cell_of_row _ _ _ _ _ _ HA1.out, bl_at b 13 (by rw [HBL.out]; omega)]
  have c14 : w3.cell? ⟨w.heap.size, 14, none⟩ = some (.int .u8 (B b 14)) := by rw [cell_of_row _ _ _ _ _ _ HA1.out, bl_at b 14 (by rw [HBL.out]; omega)]
  have l12 := B_lt b 12
  have l13 := B_lt b 13
  have l14 := B_lt b 14
  obtain ⟨x12, h12⟩ : ∃ x, B b 12 = x := ⟨_, rfl⟩
  obtain ⟨x13, h13⟩ : ∃ x, B b 13 = x := ⟨_, rfl⟩
  obtain ⟨N, h14⟩ : ∃ x, B b 14 = x := ⟨_, rfl⟩
  rw [h12] at c12 l12
  rw [h13] at c13 l13
  rw [h14] at c14 l14
  rw [h12, h13, h14] at HGOOD
  have HG := HGOOD
  have HX12 := Lib.hid h12
  have HX13 := Lib.hid h13
  have HX14 := Lib.hid h14
  have n1 : ¬ N < 1 := by have := HG.out; omega
  have n2 : ¬ 49 < N := by have := HG.out; omega
  clear h12 h13 h14 HGOOD
  go_upto_region 4 with fail
  go_cut [46] (fun s wx => s = .bool false ∧ w3 = wx)
  case first =>
    have a1 : ¬ x12 < 1 := by have := HG.out; omega
    have a2 : ¬ 2 < x12 := by have := HG.out; omega
    have a3 : ¬ 3 < x13 := by have := HG.out; omega
    by_cases e : x12 = 1
    · have h1 : ((x12 : Int) == 1) = true := by rw [e]; rfl
      have h2 : ((x13 : Int) != 0) = false := by
        have := HG.out
        have e2 : x13 = 0 := by omega
        rw [e2]; rfl
      clear e
      go_wp2_with fail
      go_meet
      exact ⟨by congr 1; simp; omega, rfl⟩
    · have h1 : ((x12 : Int) == 1) = false := by rw [beq_eq_false_iff_ne]; omega
      clear e
      go_wp2_with fail
      go_meet
      exact ⟨by congr 1; simp; omega, rfl⟩
  case rest =>
    obtain ⟨rfl, rfl⟩ := hcut
    clear c12 c13 c14
    go_upto_region 6 with fail
    go_wp2_with fail
    go_loop [5] (fun i => ∃ k : Nat, i = .int .i64 k ∧ 15 + N ≤ k ∧ k ≤ 64) (fun i => 64 - (intOf i).toNat)
    case atStart => exact ⟨15 + N, by push_cast; rfl, Nat.le_refl _, by omega⟩
    case round =>
      obtain ⟨k, rfl, hk1, hk2⟩ := hrel
      by_cases hlt : k < 64
      · have hk64 : k < 64 := by omega
        have ck : w3.cell? ⟨w.heap.size, k, none⟩ = some (.int .u8 0) := by rw [cell_of_row _ _ _ _ _ _ HA1.out, bl_at b k (by rw [HBL.out]; omega), HJZ.out k (by rw [HX14.out]; omega) hlt]; rfl
        go_wp2
        go_round
        case rel => exact ⟨k + 1, by go_num, by omega, by omega⟩
        case measure => simp [intOf]; omega
      · obtain rfl : k = 64 := by omega
        have hN : 15 + N ≤ 64 := by omega
        go_wp2_with fail
        obtain ⟨f1, hf1⟩ : ∃ f, decide (B b 13 % 2 = 1) = f := ⟨_, rfl⟩
        obtain ⟨f2, hf2⟩ : ∃ f, decide (2 ≤ B b 13) = f := ⟨_, rfl⟩
        have HF1 := Lib.hid (show (((B b 13 % 2 : Nat) : Int) == 1) = f1 by rw [← hf1]; exact rem_dec _)
        have HF2 := Lib.hid (show decide ((2 : Int) ≤ ((B b 13 : Nat) : Int)) = f2 by rw [← hf2]; apply decide_eq_decide.2; omega)
        have HPG := Lib.hid (show pgV (pg b) = #[.int .u32 (fo b 4 : Nat), .int .u32 (fo b 8 : Nat), .int .i64 (B b 12 : Nat), .bool f1, .bool f2, .string ⟨((b.drop 15).take (15 + N - 15)).toArray⟩] by
          unfold pg pgV
          simp only [hf1, hf2]
          rw [HX14.out, show 15 + N - 15 = N from by omega])
        clear hf1 hf2
        refine mf_start (RrI w b) (fun i => i == 19 || i == 20) HI3.out.drew fun hS => ?_
        refine mf_yield (i := 0) (d := 59) (.agg (bl b)) rfl rfl (by kernel_rfl) (by kernel_rfl) (by kernel_rfl) (by kernel_rfl) hS (y_load_w (by rfl) rfl rfl (fun w' h => h.2.1) Try.underlying26 rfl (info_64 (by rw [bl_size, HBL.out]))) ?_
        simp only [Act.put, List.setIfInBounds_toArray, List.set_cons_zero, List.set_cons_succ]
        refine mf_yield (i := 2) (d := 61) (.agg (bl b)) rfl rfl (by kernel_rfl) (by kernel_rfl) (by kernel_rfl) (by kernel_rfl) hS (y_load_w (by rfl) rfl rfl (fun w' h => h.2.1) Try.underlying26 rfl (info_64 (by rw [bl_size, HBL.out]))) ?_
        simp only [Act.put, List.setIfInBounds_toArray, List.set_cons_zero, List.set_cons_succ]
        refine mf_yield (i := 4) (d := 63) (.pointer (some ⟨w.heap.size, 12, none⟩)) rfl rfl (by kernel_rfl) (by kernel_rfl) (by kernel_rfl) (by kernel_rfl) hS (y_ax (k := 12) (m := 1) (by rfl) rfl rfl rfl Try.underlying26 (by kernel_rfl) rfl (by omega) (by omega)) ?_
        simp only [Act.put, List.setIfInBounds_toArray, List.set_cons_zero, List.set_cons_succ]
        refine mf_yield (i := 5) (d := 64) (.int .u8 (B b 12)) rfl rfl (by kernel_rfl) (by kernel_rfl) (by kernel_rfl) (by kernel_rfl) hS (y_byte (by rfl) rfl rfl (fun w' h => h.2.1) (by rw [HBL.out]; omega)) ?_
        simp only [Act.put, List.setIfInBounds_toArray, List.set_cons_zero, List.set_cons_succ]
        refine mf_yield (i := 6) (d := 65) (.int .i64 (B b 12)) rfl rfl (by kernel_rfl) (by kernel_rfl) (by kernel_rfl) (by kernel_rfl) hS (y_int8 (by rfl) rfl rfl (B_lt _ _)) ?_
        simp only [Act.put, List.setIfInBounds_toArray, List.set_cons_zero, List.set_cons_succ]
        refine mf_yield (i := 7) (d := 66) (.pointer (some ⟨w.heap.size, 13, none⟩)) rfl rfl (by kernel_rfl) (by kernel_rfl) (by kernel_rfl) (by kernel_rfl) hS (y_ax (k := 13) (m := 1) (by rfl) rfl rfl rfl Try.underlying26 (by kernel_rfl) rfl (by omega) (by omega)) ?_
        simp only [Act.put, List.setIfInBounds_toArray, List.set_cons_zero, List.set_cons_succ]
        refine mf_yield (i := 8) (d := 67) (.int .u8 (B b 13)) rfl rfl (by kernel_rfl) (by kernel_rfl) (by kernel_rfl) (by kernel_rfl) hS (y_byte (by rfl) rfl rfl (fun w' h => h.2.1) (by rw [HBL.out]; omega)) ?_
        simp only [Act.put, List.setIfInBounds_toArray, List.set_cons_zero, List.set_cons_succ]
        refine mf_yield (i := 9) (d := 68) (.int .u8 ((B b 13 % 2 : Nat))) rfl rfl (by kernel_rfl) (by kernel_rfl) (by kernel_rfl) (by kernel_rfl) hS (y_rem8 (by rfl) rfl rfl rfl (B_lt _ _)) ?_
        simp only [Act.put, List.setIfInBounds_toArray, List.set_cons_zero, List.set_cons_succ]
        refine mf_yield (i := 10) (d := 69) (.bool f1) rfl rfl (by kernel_rfl) (by kernel_rfl) (by kernel_rfl) (by kernel_rfl) hS (y_eqlK (by rfl) rfl Try.underlying5 rfl rfl HF1.out) ?_
        simp only [Act.put, List.setIfInBounds_toArray, List.set_cons_zero, List.set_cons_succ]
        refine mf_yield (i := 11) (d := 70) (.pointer (some ⟨w.heap.size, 13, none⟩)) rfl rfl (by kernel_rfl) (by kernel_rfl) (by kernel_rfl) (by kernel_rfl) hS (y_ax (k := 13) (m := 1) (by rfl) rfl rfl rfl Try.underlying26 (by kernel_rfl) rfl (by omega) (by omega)) ?_
        simp only [Act.put, List.setIfInBounds_toArray, List.set_cons_zero, List.set_cons_succ]
        refine mf_yield (i := 12) (d := 71) (.int .u8 (B b 13)) rfl rfl (by kernel_rfl) (by kernel_rfl) (by kernel_rfl) (by kernel_rfl) hS (y_byte (by rfl) rfl rfl (fun w' h => h.2.1) (by rw [HBL.out]; omega)) ?_
        simp only [Act.put, List.setIfInBounds_toArray, List.set_cons_zero, List.set_cons_succ]
        refine mf_yield (i := 13) (d := 72) (.bool f2) rfl rfl (by kernel_rfl) (by kernel_rfl) (by kernel_rfl) (by kernel_rfl) hS (y_geqK (by rfl) rfl rfl rfl HF2.out) ?_
        simp only [Act.put, List.setIfInBounds_toArray, List.set_cons_zero, List.set_cons_succ]
        refine mf_yield (i := 14) (d := 73) (.int .i64 N) rfl rfl (by kernel_rfl) (by kernel_rfl) (by kernel_rfl) (by kernel_rfl) hS (y_run (by rfl) fun _ => by rfl) ?_
        simp only [Act.put, List.setIfInBounds_toArray, List.set_cons_zero, List.set_cons_succ]
        refine mf_yield (i := 15) (d := 74) (.int .i64 (15 + (N : Int))) rfl rfl (by kernel_rfl) (by kernel_rfl) (by kernel_rfl) (by kernel_rfl) hS (y_add (by rfl) rfl rfl rfl (IntWalk.i64_in _ (by omega))) ?_
        simp only [Act.put, List.setIfInBounds_toArray, List.set_cons_zero, List.set_cons_succ]
        refine mf_yield (i := 16) (d := 75) (.slice ((some ⟨w.heap.size, 15, none⟩)) ((15 + N - 15)) 49) rfl rfl (by kernel_rfl) (by kernel_rfl) (by kernel_rfl) (by kernel_rfl) hS (y_cutlh (j := 15) (i := 15 + N) (by rfl) rfl rfl rfl rfl Try.underlying26 (by kernel_rfl) rfl (by push_cast; rfl) (by omega) (by omega) (by omega)) ?_
        simp only [Act.put, List.setIfInBounds_toArray, List.set_cons_zero, List.set_cons_succ]
        refine mf_yield (i := 17) (d := 76) (.string ⟨((b.drop 15).take (15 + N - 15)).toArray⟩) rfl rfl (by kernel_rfl) (by kernel_rfl) (by kernel_rfl) (by kernel_rfl) hS (y_text (by rfl) rfl rfl (fun w' h => h.2.1) (by rw [HBL.out]; omega)) ?_
        simp only [Act.put, List.setIfInBounds_toArray, List.set_cons_zero, List.set_cons_succ]
        refine mf_ready [1] (by kernel_rfl) (by simp) (af_call (i := 1) (d := 60) (R := fun v w' => v = .int .u32 (fo b 4 : Nat) ∧ RrI w b w') #[.agg (bl b), .int .i64 4] rfl rfl (by rfl) rfl enter_rfo (by kernel_rfl) ((refFo_any b (bl b) (byts_bl HBL.out) 4 (by omega) _).mono fun e w' h => ⟨_, h.1, rfl, hS.next h.2⟩) (fun v w' h => h.2) ?_ AllReadyF.nil)
        rintro v v1 ⟨rfl, h1⟩ hS1
        clear hS h1
        have hS := hS1
        clear hS1
        simp only [Act.put, List.setIfInBounds_toArray, List.set_cons_zero, List.set_cons_succ]
        refine mf_ready [3] (by kernel_rfl) (by simp) (af_call (i := 3) (d := 62) (R := fun v w' => v = .int .u32 (fo b 8 : Nat) ∧ RrI w b w') #[.agg (bl b), .int .i64 8] rfl rfl (by rfl) rfl enter_rfo (by kernel_rfl) ((refFo_any b (bl b) (byts_bl HBL.out) 8 (by omega) _).mono fun e w' h => ⟨_, h.1, rfl, hS.next h.2⟩) (fun v w' h => h.2) ?_ AllReadyF.nil)
        rintro v v3 ⟨rfl, h3⟩ hS3
        clear hS h3
        have hS := hS3
        clear hS3
        simp only [Act.put, List.setIfInBounds_toArray, List.set_cons_zero, List.set_cons_succ]
        refine mf_one (i := 18) (d := 77) (.agg (pgV (pg b))) rfl rfl (by kernel_rfl) hS (by rw [HPG.out]; exact y_build_parts (L := [(0, .tmp 60), (1, .tmp 62), (2, .tmp 65), (3, .tmp 69), (4, .tmp 72), (5, .tmp 76)]) (by rfl) rfl _ rfl (built_rp _ _ _ _ _ _)) ?_
        simp only [Act.put, List.setIfInBounds_toArray, List.set_cons_zero, List.set_cons_succ]
        refine mf_ready [19] (by kernel_rfl) (by simp) (af_store (i := 19) (w.heap.size + 1) (pgV (pg b)) (pgV Pv.zero) rfl rfl (by rfl) rfl rfl rfl rfl hS.2.2 rfl (pgV_one _) (info_rp rfl) ?_ AllReadyF.nil)
        refine mf_ready [20] (by kernel_rfl) (by simp) (af_assign (i := 20) (d := 3) (v := .int .i64 0) rfl rfl (by rfl) (fun w => by rfl) (fun h => by cases h) ?_ AllReadyF.nil)
        simp only [Act.put, List.setIfInBounds_toArray, List.set_cons_zero, List.set_cons_succ]
        refine mf_done (by kernel_rfl) ?_
        have HB := Lib.hid (below_setRow' hS.1 (Nat.le_succ _) (pgV (pg b)))
        have HA := Lib.hid (At.setRow (C := pgV (pg b)) hS.2.2)
        clear hS
        go_wp2_with fail
        exact bodyPost_ret (v := .tuple #[.agg (pgV (pg b)), .int .i64 0]) (results_any_int rfl _ _ (w.heap.size + 1) (pgV (pg b)) _ rfl rfl HA.out Try.underlying24 rfl (info_rp rfl)) rfl ⟨rfl, HB.out⟩

theorem rread_as (b : List UInt8) (w : World) (hb : b.length = 64) :
    Calls Try.prog 18 #[.agg (bl b)] w fun e w' => e = .returned (.tuple #[.agg (pgV (rdV b)), .int .i64 (rdE b)]) ∧ Below w.heap.size w w' := by
  by_cases hs : SumOk b
  · by_cases hg : 1 ≤ B b 12 ∧ B b 12 ≤ 2 ∧ B b 13 ≤ 3 ∧ (B b 12 ≠ 1 ∨ B b 13 = 0) ∧ 1 ≤ B b 14 ∧ B b 14 ≤ 49
    · by_cases hz : ∀ i, i < 64 → (15 + B b 14 ≤ i → B b i = 0)
      · have hf : FormOk b := ⟨hg.1, hg.2.1, hg.2.2.1, fun e => hg.2.2.2.1.resolve_left fun h => h e, hg.2.2.2.2.1, hg.2.2.2.2.2, fun i h1 h2 => hz i h2 h1⟩
        rw [(rd_yes hs hf).1, (rd_yes hs hf).2]
        exact rr_yes b w hb hs hf
      · have hf : ¬ FormOk b := fun h => hz fun i h1 h2 => h.2.2.2.2.2.2 i h2 h1
        obtain ⟨j, h1, h2, h3⟩ := first_bad hz
        rw [(rd_form hs hf).1, (rd_form hs hf).2]
        have h4 : 15 + B b 14 ≤ j := by
          by_cases h : 15 + B b 14 ≤ j
          · exact h
          · exact absurd (fun e => absurd e h) h2
        exact rr_tail b w hb hs hg j h4 h1 (fun i h5 h6 => h3 i h6 h5) fun e => h2 fun _ => e
    · have hf : ¬ FormOk b := fun h => hg (good_of h)
      rw [(rd_form hs hf).1, (rd_form hs hf).2]
      exact rr_bad b w hb hs hg
  · rw [(rd_sum hs).1, (rd_sum hs).2]
    exact rr_sum b w hb hs
end Go.Proofs.Yteahbdnnieaaaaa.Pa
