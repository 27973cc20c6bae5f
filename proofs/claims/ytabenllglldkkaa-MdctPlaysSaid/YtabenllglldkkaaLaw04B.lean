/- The statements' walks of layer 4, second part: MdctAdds. -/
import Derived.Test.YtabenllglldkkaaMdPar3
import Derived.Deep.RegionHeld3
namespace Go.Proofs.Ytabenllglldkkaa.Md
open Go.RowKit Go.Proofs.Ytabenllglldkkaa.Ang

theorem sm_le (f : Nat → Int) : Le 65536 (smS f) := fun i _ => by
  have := tmod_bd (f i) 65537 (by omega)
  unfold smS
  exact ab_le (by omega) (by omega)
theorem Le.mono {M N : Int} {f : Nat → Int} (h : Le M f) (hm : M ≤ N) : Le N f := fun i hi => Int.le_trans (h i hi) hm
theorem le_add {M N : Int} {f g : Nat → Int} (h : Le M f) (h' : Le N g) : Le (M + N) (fun i => f i + g i) := fun i hi => by
  have := ab_add (f i) (g i)
  have := h i hi
  have := h' i hi
  show ab (f i + g i) ≤ _
  omega

/-- Four rows that came in. -/
def In4 (w w' : World) (T0 T1 T2 T3 : Array Value) : Prop :=
  Below w.heap.size w w' ∧ At w' w.heap.size T0 22 ∧ At w' (w.heap.size + 1) T1 22 ∧ At w' (w.heap.size + 1 + 1) T2 22 ∧ At w' (w.heap.size + 1 + 1 + 1) T3 22
theorem In4.start (w : World) (T0 T1 T2 T3 : Array Value) : In4 w ((((w.alloc (.cells T0 22)).alloc (.cells T1 22)).alloc (.cells T2 22)).alloc (.cells T3 22)) T0 T1 T2 T3 := by
  refine ⟨((((Below.refl _ _).alloc (Nat.le_refl _) _).alloc (by simp) _).alloc (by simp; omega) _).alloc (by simp; omega) _, (((At.new _ _ _).alloc _).alloc _).alloc _, ?_, ?_, ?_⟩
  · have := ((At.new (w.alloc (.cells T0 22)) T1 22).alloc (.cells T2 22)).alloc (.cells T3 22)
    simpa using this
  · have := (At.new ((w.alloc (.cells T0 22)).alloc (.cells T1 22)) T2 22).alloc (.cells T3 22)
    simpa using this
  · have := At.new (((w.alloc (.cells T0 22)).alloc (.cells T1 22)).alloc (.cells T2 22)) T3 22
    simpa using this
theorem In4.below {w w1 w2 : World} {T0 T1 T2 T3 : Array Value} (h : In4 w w1 T0 T1 T2 T3) (hb : Below w1.heap.size w1 w2) : In4 w w2 T0 T1 T2 T3 :=
  ⟨below_trans h.1 hb h.1.size, h.2.1.below hb h.2.1.lt, h.2.2.1.below hb h.2.2.1.lt, h.2.2.2.1.below hb h.2.2.2.1.lt, h.2.2.2.2.below hb h.2.2.2.2.lt⟩

/-- Four frames and two that are being filled. -/
def AdInv (w w' : World) (X0 X1 X2 X3 : Array Value) (c0 c1 c2 c3 e0 e1 : Nat) (s t : Nat → Int) (k : Nat) : Prop :=
  Below w.heap.size w w' ∧ At w' c0 X0 24 ∧ At w' c1 X1 24 ∧ At w' c2 X2 24 ∧ At w' c3 X3 24 ∧ At w' e0 (rowL 16 s k) 24 ∧ At w' e1 (rowL 16 t k) 24

/-- Three rows of waves. -/
def Ad3 (w w' : World) (P Q R : Array Value) (c0 c1 c2 : Nat) : Prop := Below w.heap.size w w' ∧ At w' c0 P 24 ∧ At w' c1 Q 24 ∧ At w' c2 R 24

set_option maxRecDepth 100000 in
set_option maxHeartbeats 2000000 in
theorem mdctAdds_walk (T0 T1 T2 T3 : Array Value) (f0 f1 f2 f3 : Nat → Int) (h0 : IsRow 16 f0 T0) (h1 : IsRow 16 f1 T1) (h2 : IsRow 16 f2 T2) (h3 : IsRow 16 f3 T3) (w : World) :
    Calls Try.prog 6 #[.agg T0, .agg T1, .agg T2, .agg T3] w fun e w' => e = .returned (.bool true) ∧ Below w.heap.size w w' := by
  obtain ⟨Z, hZ, hZ0, hz, hi⟩ := zero_block
  obtain ⟨Y, hY, hY0, hy, hj⟩ := zero_16
  obtain ⟨X0, hX0⟩ : ∃ A, rowL 16 (smS f0) 16 = A := ⟨_, rfl⟩
  have r0 : IsRow 16 (smS f0) X0 := by rw [← hX0]; exact isRow _ _
  have C0 := Lib.hid (fun w => small_any T0 f0 h0 w)
  rw [hX0] at C0
  have R0 := Lib.hid r0
  have S0 := Lib.hid r0.1
  have O0 := Lib.hid r0.2.1
  have HT0 := Lib.hid h0
  obtain ⟨X1, hX1⟩ : ∃ A, rowL 16 (smS f1) 16 = A := ⟨_, rfl⟩
  have r1 : IsRow 16 (smS f1) X1 := by rw [← hX1]; exact isRow _ _
  have C1 := Lib.hid (fun w => small_any T1 f1 h1 w)
  rw [hX1] at C1
  have R1 := Lib.hid r1
  have S1 := Lib.hid r1.1
  have O1 := Lib.hid r1.2.1
  have HT1 := Lib.hid h1
  obtain ⟨X2, hX2⟩ : ∃ A, rowL 16 (smS f2) 16 = A := ⟨_, rfl⟩
  have r2 : IsRow 16 (smS f2) X2 := by rw [← hX2]; exact isRow _ _
  have C2 := Lib.hid (fun w => small_any T2 f2 h2 w)
  rw [hX2] at C2
  have R2 := Lib.hid r2
  have S2 := Lib.hid r2.1
  have O2 := Lib.hid r2.2.1
  have HT2 := Lib.hid h2
  obtain ⟨X3, hX3⟩ : ∃ A, rowL 16 (smS f3) 16 = A := ⟨_, rfl⟩
  have r3 : IsRow 16 (smS f3) X3 := by rw [← hX3]; exact isRow _ _
  have C3 := Lib.hid (fun w => small_any T3 f3 h3 w)
  rw [hX3] at C3
  have R3 := Lib.hid r3
  have S3 := Lib.hid r3.1
  have O3 := Lib.hid r3.2.1
  have HT3 := Lib.hid h3
  have HZ := Lib.hid hZ
  have ZE := Lib.hid hZ0
  have HI := Lib.hid hi
  have HJ := Lib.hid hj
  have HS := Lib.hid (In4.start w T0 T1 T2 T3)
  clear hZ hi hj hZ0 hY0 hY hX0 hX1 hX2 hX3 r0 r1 r2 r3 h0 h1 h2 h3
  go_enter Try.func6, Try.ntmps6
  go_wp2_with fail
  refine (awake_yes _).mono ?_
  rintro e w1 ⟨rfl, hw1⟩
  have H1 := Lib.hid (HS.out.below hw1)
  clear HS hw1
  go_wp2_with fail
  refine mv_start fun hS => ?_
  refine mv_yield (i := 0) (d := 23) (.agg T0) rfl rfl (by kernel_rfl) (by kernel_rfl) (by kernel_rfl) hS (y_load (by rfl) rfl rfl H1.out.2.1 Try.underlying22 (HJ.out _ HT0.out.1)) ?_
  simp only [Act.put, List.setIfInBounds_toArray, List.set_cons_zero, List.set_cons_succ]
  refine mv_yield (i := 2) (d := 25) (.agg T1) rfl rfl (by kernel_rfl) (by kernel_rfl) (by kernel_rfl) hS (y_load (by rfl) rfl rfl H1.out.2.2.1 Try.underlying22 (HJ.out _ HT1.out.1)) ?_
  simp only [Act.put, List.setIfInBounds_toArray, List.set_cons_zero, List.set_cons_succ]
  refine mv_yield (i := 4) (d := 27) (.agg T2) rfl rfl (by kernel_rfl) (by kernel_rfl) (by kernel_rfl) hS (y_load (by rfl) rfl rfl H1.out.2.2.2.1 Try.underlying22 (HJ.out _ HT2.out.1)) ?_
  simp only [Act.put, List.setIfInBounds_toArray, List.set_cons_zero, List.set_cons_succ]
  refine mv_yield (i := 6) (d := 29) (.agg T3) rfl rfl (by kernel_rfl) (by kernel_rfl) (by kernel_rfl) hS (y_load (by rfl) rfl rfl H1.out.2.2.2.2 Try.underlying22 (HJ.out _ HT3.out.1)) ?_
  simp only [Act.put, List.setIfInBounds_toArray, List.set_cons_zero, List.set_cons_succ]
  refine par0 (fuel := 4) [1, 3, 5, 7, 8, 9, 10, 11] [7, 5, 3, 1, 8, 9, 10, 11] (fun i => decide (8 ≤ i)) (fun i => if i = 1 then .agg X0 else if i = 3 then .agg X1 else if i = 5 then .agg X2 else .agg X3) (fun _ => Z) (fun _ => 24) #[true, true, true, true, true, true, true, true, true, true, true, true, false, false, false, false] _ rfl (by decide) (by decide) (by decide) rfl (by kernel_rfl) (by kernel_rfl) (by kernel_rfl) (by kernel_rfl) (by kernel_rfl) (by kernel_rfl) (by kernel_rfl) hS ?_ ?_
  · intro i hi
    simp only [List.mem_cons, List.not_mem_nil, or_false] at hi
    rcases hi with rfl | rfl | rfl | rfl | rfl | rfl | rfl | rfl
    · exact ⟨_, rfl, fun w _ => st_call (isA := fun i => decide (8 ≤ i)) (V := fun i => if i = 1 then .agg X0 else if i = 3 then .agg X1 else if i = 5 then .agg X2 else .agg X3) (Zc := fun _ => Z) (ty := fun _ => 24) (i := 1) #[.agg T0] rfl rfl rfl enter_small (by kernel_rfl) (C0.out _)⟩
    · exact ⟨_, rfl, fun w _ => st_call (isA := fun i => decide (8 ≤ i)) (V := fun i => if i = 1 then .agg X0 else if i = 3 then .agg X1 else if i = 5 then .agg X2 else .agg X3) (Zc := fun _ => Z) (ty := fun _ => 24) (i := 3) #[.agg T1] rfl rfl rfl enter_small (by kernel_rfl) (C1.out _)⟩
    · exact ⟨_, rfl, fun w _ => st_call (isA := fun i => decide (8 ≤ i)) (V := fun i => if i = 1 then .agg X0 else if i = 3 then .agg X1 else if i = 5 then .agg X2 else .agg X3) (Zc := fun _ => Z) (ty := fun _ => 24) (i := 5) #[.agg T2] rfl rfl rfl enter_small (by kernel_rfl) (C2.out _)⟩
    · exact ⟨_, rfl, fun w _ => st_call (isA := fun i => decide (8 ≤ i)) (V := fun i => if i = 1 then .agg X0 else if i = 3 then .agg X1 else if i = 5 then .agg X2 else .agg X3) (Zc := fun _ => Z) (ty := fun _ => 24) (i := 7) #[.agg T3] rfl rfl rfl enter_small (by kernel_rfl) (C3.out _)⟩
    · exact ⟨_, rfl, fun w _ => st_alloc (isA := fun i => decide (8 ≤ i)) (V := fun i => if i = 1 then .agg X0 else if i = 3 then .agg X1 else if i = 5 then .agg X2 else .agg X3) (Zc := fun _ => Z) (ty := fun _ => 24) (i := 8) rfl rfl rfl rfl hz⟩
    · exact ⟨_, rfl, fun w _ => st_alloc (isA := fun i => decide (8 ≤ i)) (V := fun i => if i = 1 then .agg X0 else if i = 3 then .agg X1 else if i = 5 then .agg X2 else .agg X3) (Zc := fun _ => Z) (ty := fun _ => 24) (i := 9) rfl rfl rfl rfl hz⟩
    · exact ⟨_, rfl, fun w _ => st_alloc (isA := fun i => decide (8 ≤ i)) (V := fun i => if i = 1 then .agg X0 else if i = 3 then .agg X1 else if i = 5 then .agg X2 else .agg X3) (Zc := fun _ => Z) (ty := fun _ => 24) (i := 10) rfl rfl rfl rfl hz⟩
    · exact ⟨_, rfl, fun w _ => st_alloc (isA := fun i => decide (8 ≤ i)) (V := fun i => if i = 1 then .agg X0 else if i = 3 then .agg X1 else if i = 5 then .agg X2 else .agg X3) (Zc := fun _ => Z) (ty := fun _ => 24) (i := 11) rfl rfl rfl rfl hz⟩
  clear hS
  intro val w' hS hY hV
  have v1 : val 1 = .agg X0 := (hY 1 (by simp)).1 rfl
  have v3 : val 3 = .agg X1 := (hY 3 (by simp)).1 rfl
  have v5 : val 5 = .agg X2 := (hY 5 (by simp)).1 rfl
  have v7 : val 7 = .agg X3 := (hY 7 (by simp)).1 rfl
  obtain ⟨b8, e8, a8, g8⟩ : ∃ b, val 8 = .pointer (some ⟨b, 0, none⟩) ∧ At w' b Z 24 ∧ w1.heap.size ≤ b := (hY 8 (by simp)).2 rfl
  obtain ⟨b9, e9, a9, g9⟩ : ∃ b, val 9 = .pointer (some ⟨b, 0, none⟩) ∧ At w' b Z 24 ∧ w1.heap.size ≤ b := (hY 9 (by simp)).2 rfl
  obtain ⟨b10, e10, a10, g10⟩ : ∃ b, val 10 = .pointer (some ⟨b, 0, none⟩) ∧ At w' b Z 24 ∧ w1.heap.size ≤ b := (hY 10 (by simp)).2 rfl
  obtain ⟨b11, e11, a11, g11⟩ : ∃ b, val 11 = .pointer (some ⟨b, 0, none⟩) ∧ At w' b Z 24 ∧ w1.heap.size ≤ b := (hY 11 (by simp)).2 rfl
  have n8_9 : b8 ≠ b9 := fun e => hV 8 (by simp) 9 (by simp) (by decide) rfl rfl (by rw [e8, e9, e])
  have n8_10 : b8 ≠ b10 := fun e => hV 8 (by simp) 10 (by simp) (by decide) rfl rfl (by rw [e8, e10, e])
  have n8_11 : b8 ≠ b11 := fun e => hV 8 (by simp) 11 (by simp) (by decide) rfl rfl (by rw [e8, e11, e])
  have n9_8 : b9 ≠ b8 := fun e => hV 9 (by simp) 8 (by simp) (by decide) rfl rfl (by rw [e9, e8, e])
  have n9_10 : b9 ≠ b10 := fun e => hV 9 (by simp) 10 (by simp) (by decide) rfl rfl (by rw [e9, e10, e])
  have n9_11 : b9 ≠ b11 := fun e => hV 9 (by simp) 11 (by simp) (by decide) rfl rfl (by rw [e9, e11, e])
  have n10_8 : b10 ≠ b8 := fun e => hV 10 (by simp) 8 (by simp) (by decide) rfl rfl (by rw [e10, e8, e])
  have n10_9 : b10 ≠ b9 := fun e => hV 10 (by simp) 9 (by simp) (by decide) rfl rfl (by rw [e10, e9, e])
  have n10_11 : b10 ≠ b11 := fun e => hV 10 (by simp) 11 (by simp) (by decide) rfl rfl (by rw [e10, e11, e])
  have n11_8 : b11 ≠ b8 := fun e => hV 11 (by simp) 8 (by simp) (by decide) rfl rfl (by rw [e11, e8, e])
  have n11_9 : b11 ≠ b9 := fun e => hV 11 (by simp) 9 (by simp) (by decide) rfl rfl (by rw [e11, e9, e])
  have n11_10 : b11 ≠ b10 := fun e => hV 11 (by simp) 10 (by simp) (by decide) rfl rfl (by rw [e11, e10, e])
  show wpAnyH _ _ _ _ _ _ _ (Act.put (Act.put (Act.put (Act.put (Act.put (Act.put (Act.put (Act.put _ (some 24) (val 1)) (some 26) (val 3)) (some 28) (val 5)) (some 30) (val 7)) (some 9) (val 8)) (some 10) (val 9)) (some 11) (val 10)) (some 12) (val 11)) _
  rw [v1, v3, v5, v7, e8, e9, e10, e11]
  simp only [Act.put, List.setIfInBounds_toArray, List.set_cons_zero, List.set_cons_succ]
  clear hY hV v1 v3 v5 v7 e8 e9 e10 e11
  refine mv_store (i := 12) b8 X0 _ rfl rfl (by kernel_rfl) (by rfl) rfl rfl rfl a8 (by rw [HZ.out.1, S0.out]) O0.out (HI.out _ S0.out) g8 hS (fun hS => ?_)
  refine mv_store (i := 13) b9 X1 _ rfl rfl (by kernel_rfl) (by rfl) rfl rfl rfl (a9.setRow_other n9_8) (by rw [HZ.out.1, S1.out]) O1.out (HI.out _ S1.out) g9 hS (fun hS => ?_)
  refine mv_store (i := 14) b10 X2 _ rfl rfl (by kernel_rfl) (by rfl) rfl rfl rfl ((a10.setRow_other n10_8).setRow_other n10_9) (by rw [HZ.out.1, S2.out]) O2.out (HI.out _ S2.out) g10 hS (fun hS => ?_)
  refine mv_store (i := 15) b11 X3 _ rfl rfl (by kernel_rfl) (by rfl) rfl rfl rfl (((a11.setRow_other n11_8).setRow_other n11_9).setRow_other n11_10) (by rw [HZ.out.1, S3.out]) O3.out (HI.out _ S3.out) g11 hS (fun hS => ?_)
  refine mv_done (by kernel_rfl) ?_
  have P8 := Lib.hid ((((a8.setRow (C := X0)).setRow_other (C := X1) n8_9).setRow_other (C := X2) n8_10).setRow_other (C := X3) n8_11)
  have P9 := Lib.hid ((((a9.setRow_other (C := X0) n9_8).setRow (C := X1)).setRow_other (C := X2) n9_10).setRow_other (C := X3) n9_11)
  have P10 := Lib.hid ((((a10.setRow_other (C := X0) n10_8).setRow_other (C := X1) n10_9).setRow (C := X2)).setRow_other (C := X3) n10_11)
  have P11 := Lib.hid ((((a11.setRow_other (C := X0) n11_8).setRow_other (C := X1) n11_9).setRow_other (C := X2) n11_10).setRow (C := X3))
  have B3 := Lib.hid (below_trans H1.out.1 hS H1.out.1.size)
  revert P8 P9 P10 P11 B3
  generalize ((((w'.setRow b8 X0).setRow b9 X1).setRow b10 X2).setRow b11 X3) = w3
  intro P8 P9 P10 P11 B3
  clear hS H1
  have l8 := P8.out.lt
  have l9 := P9.out.lt
  have l10 := P10.out.lt
  have l11 := P11.out.lt
  have hstart : AdInv w ((w3.alloc (.cells Z 24)).alloc (.cells Z 24)) X0 X1 X2 X3 b8 b9 b10 b11 w3.heap.size (w3.heap.size + 1) (fun i => smS f0 i + smS f2 i) (fun i => smS f1 i + smS f3 i) 0 :=
    ⟨(B3.out.alloc B3.out.size _).alloc (by have := B3.out.size; simp; omega) _, (P8.out.alloc _).alloc _, (P9.out.alloc _).alloc _, (P10.out.alloc _).alloc _, (P11.out.alloc _).alloc _, by rw [ZE.out]; exact (At.new _ _ _).alloc _, by
      rw [ZE.out]
      have := At.new (w3.alloc (.cells Z 24)) Z 24
      rw [World.size_alloc] at this
      exact this⟩
  have hws : w.heap.size ≤ w3.heap.size := B3.out.size
  clear P8 P9 P10 P11 B3
  have HSt := Lib.hid hstart
  clear hstart
  go_wp2
  have hstart := HSt.out
  clear HSt
  revert hstart
  generalize (w3.alloc (.cells Z 24)).alloc (.cells Z 24) = W
  obtain ⟨d1, hd1⟩ : ∃ d1, w3.heap.size + 1 = d1 := ⟨_, rfl⟩
  have m1 : w3.heap.size < d1 := by omega
  rw [hd1]
  clear hd1
  revert hws l8 l9 l10 l11 m1
  generalize w3.heap.size = d0
  intro hws l8 l9 l10 l11 m1 hstart
  go_loopw [15] (fun i w' => ∃ k : Nat, k ≤ 16 ∧ i = .int .i64 k ∧ AdInv w w' X0 X1 X2 X3 b8 b9 b10 b11 d0 d1 (fun i => smS f0 i + smS f2 i) (fun i => smS f1 i + smS f3 i) k) (fun i _ => 16 - (intOf i).toNat)
  case atStart => exact ⟨0, Nat.zero_le _, rfl, hstart⟩
  case round =>
    obtain ⟨k, hk, rfl, hinv⟩ := hrel
    clear hstart
    obtain ⟨hb, q0, q1, q2, q3, q4, q5⟩ := hinv
    have Q0 := Lib.hid q0
    have Q1 := Lib.hid q1
    have Q2 := Lib.hid q2
    have Q3 := Lib.hid q3
    have Q4 := Lib.hid q4
    have Q5 := Lib.hid q5
    by_cases hk16 : k < 16
    · have c0 := R0.out.cell q0 k hk16
      have c2 := R2.out.cell q2 k hk16
      have c4 := rowL_cell q4 k hk16
      have f4 := q4.frozen k
      obtain ⟨x, hx⟩ : ∃ x, smS f0 k = x := ⟨_, rfl⟩
      obtain ⟨z, hz'⟩ : ∃ x, smS f2 k = x := ⟨_, rfl⟩
      obtain ⟨x1, x2⟩ := le_ab (sm_le f0 k hk16)
      obtain ⟨z1, z2⟩ := le_ab (sm_le f2 k hk16)
      rw [hx] at c0 x1 x2
      rw [hz'] at c2 z1 z2
      have HX := Lib.hid (show smS f0 k + smS f2 k = x + z by rw [hx, hz'])
      have k1 : (k : Int) < 16 := by omega
      have k0 : (0 : Int) ≤ (k : Int) := by omega
      have hm : IntKind.i64.wrap (x + z) = x + z := IntWalk.i64_in _ (by omega)
      clear q0 q1 q2 q3 q4 q5 hx hz'
      go_wp2_with fail
      go_region_held3 (fun w' => w'.cell? ⟨b8, k, none⟩ = some (.int .i64 x) ∧ w'.cell? ⟨b10, k, none⟩ = some (.int .i64 z)) (first | assumption | exact ⟨c0, c2⟩ | exact cells2 ⟨c0, c2⟩ (by dsimp only; omega) (by dsimp only; omega)) (fail)
      have B1 : Below w.heap.size w (wr.setCell ⟨d0, k, none⟩ (.int .i64 (x + z))).drew := (hb.setCell (by dsimp only; omega) _).drew
      have G0 : At (wr.setCell ⟨d0, k, none⟩ (.int .i64 (x + z))).drew b8 X0 24 := Q0.out.setCell_other (by dsimp only; omega)
      have G1 : At (wr.setCell ⟨d0, k, none⟩ (.int .i64 (x + z))).drew b9 X1 24 := Q1.out.setCell_other (by dsimp only; omega)
      have G2 : At (wr.setCell ⟨d0, k, none⟩ (.int .i64 (x + z))).drew b10 X2 24 := Q2.out.setCell_other (by dsimp only; omega)
      have G3 : At (wr.setCell ⟨d0, k, none⟩ (.int .i64 (x + z))).drew b11 X3 24 := Q3.out.setCell_other (by dsimp only; omega)
      have G4 : At (wr.setCell ⟨d0, k, none⟩ (.int .i64 (x + z))).drew d0 (rowL 16 (fun i => smS f0 i + smS f2 i) (k + 1)) 24 := by
        rw [← HX.out]; exact At.put (f := fun i => smS f0 i + smS f2 i) Q4.out hk16
      have G5 : At (wr.setCell ⟨d0, k, none⟩ (.int .i64 (x + z))).drew d1 (rowL 16 (fun i => smS f1 i + smS f3 i) k) 24 := Q5.out.setCell_other (by dsimp only; omega)
      revert B1 G0 G1 G2 G3 G4 G5
      generalize (wr.setCell ⟨d0, k, none⟩ (.int .i64 (x + z))).drew = W1
      intro B1 G0 G1 G2 G3 G4 G5
      clear c0 c2 c4 f4 hm x1 x2 z1 z2 HX Q0 Q1 Q2 Q3 Q4 Q5 hb
      have Q0 := Lib.hid G0
      have Q1 := Lib.hid G1
      have Q2 := Lib.hid G2
      have Q3 := Lib.hid G3
      have Q4 := Lib.hid G4
      have Q5 := Lib.hid G5
      have c1 := R1.out.cell G1 k hk16
      have c3 := R3.out.cell G3 k hk16
      have c5 := rowL_cell G5 k hk16
      have f5 := G5.frozen k
      obtain ⟨y, hy'⟩ : ∃ x, smS f1 k = x := ⟨_, rfl⟩
      obtain ⟨v, hv⟩ : ∃ x, smS f3 k = x := ⟨_, rfl⟩
      obtain ⟨y1, y2⟩ := le_ab (sm_le f1 k hk16)
      obtain ⟨v1, v2⟩ := le_ab (sm_le f3 k hk16)
      rw [hy'] at c1 y1 y2
      rw [hv] at c3 v1 v2
      have HV := Lib.hid (show smS f1 k + smS f3 k = y + v by rw [hy', hv])
      have hm : IntKind.i64.wrap (y + v) = y + v := IntWalk.i64_in _ (by omega)
      clear G0 G1 G2 G3 G4 G5 hy' hv
      go_wp2_with fail
      go_region_held3 (fun w' => w'.cell? ⟨b9, k, none⟩ = some (.int .i64 y) ∧ w'.cell? ⟨b11, k, none⟩ = some (.int .i64 v)) (first | assumption | exact ⟨c1, c3⟩ | exact cells2 ⟨c1, c3⟩ (by dsimp only; omega) (by dsimp only; omega)) (fail)
      go_wp2
      go_roundw
      case rel => exact ⟨k + 1, by omega, by go_num, (B1.setCell (by dsimp only; omega) _).drew, Q0.out.setCell_other (by dsimp only; omega), Q1.out.setCell_other (by dsimp only; omega), Q2.out.setCell_other (by dsimp only; omega), Q3.out.setCell_other (by dsimp only; omega), Q4.out.setCell_other (by dsimp only; omega), by rw [← HV.out]; exact At.put (f := fun i => smS f1 i + smS f3 i) Q5.out hk16⟩
      case measure => simp [intOf]; omega
    · obtain rfl : k = 16 := by omega
      rw [show ((16 : Nat) : Int) = 16 from rfl]
      obtain ⟨SS, hSS⟩ : ∃ A, rowL 16 (fun i => smS f0 i + smS f2 i) 16 = A := ⟨_, rfl⟩
      obtain ⟨TT, hTT⟩ : ∃ A, rowL 16 (fun i => smS f1 i + smS f3 i) 16 = A := ⟨_, rfl⟩
      have rS : IsRow 16 (fun i => smS f0 i + smS f2 i) SS := by rw [← hSS]; exact isRow _ _
      have rT : IsRow 16 (fun i => smS f1 i + smS f3 i) TT := by rw [← hTT]; exact isRow _ _
      rw [hSS] at q4
      rw [hTT] at q5
      obtain ⟨PP, hPP⟩ : ∃ A, rowL 16 (wS (smS f0) (smS f1)) 16 = A := ⟨_, rfl⟩
      obtain ⟨QQ, hQQ⟩ : ∃ A, rowL 16 (wS (smS f2) (smS f3)) 16 = A := ⟨_, rfl⟩
      obtain ⟨RR, hRR⟩ : ∃ A, rowL 16 (wS (fun i => smS f0 i + smS f2 i) (fun i => smS f1 i + smS f3 i)) 16 = A := ⟨_, rfl⟩
      have rP : IsRow 16 (wS (smS f0) (smS f1)) PP := by rw [← hPP]; exact isRow _ _
      have rQ : IsRow 16 (wS (smS f2) (smS f3)) QQ := by rw [← hQQ]; exact isRow _ _
      have rR : IsRow 16 (wS (fun i => smS f0 i + smS f2 i) (fun i => smS f1 i + smS f3 i)) RR := by rw [← hRR]; exact isRow _ _
      have CP := Lib.hid (fun w => waves_yes X0 X1 (smS f0) (smS f1) R0.out R1.out ((sm_le f0).mono (by decide)) ((sm_le f1).mono (by decide)) w)
      have CQ := Lib.hid (fun w => waves_yes X2 X3 (smS f2) (smS f3) R2.out R3.out ((sm_le f2).mono (by decide)) ((sm_le f3).mono (by decide)) w)
      have CR := Lib.hid (fun w => waves_yes SS TT _ _ rS rT ((le_add (sm_le f0) (sm_le f2)).mono (by decide)) ((le_add (sm_le f1) (sm_le f3)).mono (by decide)) w)
      rw [hPP] at CP
      rw [hQQ] at CQ
      rw [hRR] at CR
      have RP := Lib.hid rP
      have RQ := Lib.hid rQ
      have RR' := Lib.hid rR
      have SP := Lib.hid rP.1
      have SQ := Lib.hid rQ.1
      have SR := Lib.hid rR.1
      have SSz := Lib.hid rS.1
      have STz := Lib.hid rT.1
      have OP := Lib.hid rP.2.1
      have OQ := Lib.hid rQ.2.1
      have OR := Lib.hid rR.2.1
      have Q4' := Lib.hid q4
      have Q5' := Lib.hid q5
      have BW := Lib.hid hb
      clear q0 q1 q2 q3 q4 q5 Q4 Q5 hSS hTT hPP hQQ hRR rS rT rP rQ rR hb hws l8 l9 l10 l11 m1
      go_wp2_with fail
      refine mv_start fun hS => ?_
      refine mv_yield (i := 0) (d := 53) (.agg X0) rfl rfl (by kernel_rfl) (by kernel_rfl) (by kernel_rfl) hS (y_load (by rfl) rfl rfl Q0.out Try.underlying24 (HI.out _ S0.out)) ?_
      simp only [Act.put, List.setIfInBounds_toArray, List.set_cons_zero, List.set_cons_succ]
      refine mv_yield (i := 1) (d := 54) (.agg X1) rfl rfl (by kernel_rfl) (by kernel_rfl) (by kernel_rfl) hS (y_load (by rfl) rfl rfl Q1.out Try.underlying24 (HI.out _ S1.out)) ?_
      simp only [Act.put, List.setIfInBounds_toArray, List.set_cons_zero, List.set_cons_succ]
      refine mv_yield (i := 3) (d := 56) (.agg X2) rfl rfl (by kernel_rfl) (by kernel_rfl) (by kernel_rfl) hS (y_load (by rfl) rfl rfl Q2.out Try.underlying24 (HI.out _ S2.out)) ?_
      simp only [Act.put, List.setIfInBounds_toArray, List.set_cons_zero, List.set_cons_succ]
      refine mv_yield (i := 4) (d := 57) (.agg X3) rfl rfl (by kernel_rfl) (by kernel_rfl) (by kernel_rfl) hS (y_load (by rfl) rfl rfl Q3.out Try.underlying24 (HI.out _ S3.out)) ?_
      simp only [Act.put, List.setIfInBounds_toArray, List.set_cons_zero, List.set_cons_succ]
      refine mv_yield (i := 6) (d := 59) (.agg SS) rfl rfl (by kernel_rfl) (by kernel_rfl) (by kernel_rfl) hS (y_load (by rfl) rfl rfl Q4'.out Try.underlying24 (HI.out _ SSz.out)) ?_
      simp only [Act.put, List.setIfInBounds_toArray, List.set_cons_zero, List.set_cons_succ]
      refine mv_yield (i := 7) (d := 60) (.agg TT) rfl rfl (by kernel_rfl) (by kernel_rfl) (by kernel_rfl) hS (y_load (by rfl) rfl rfl Q5'.out Try.underlying24 (HI.out _ STz.out)) ?_
      simp only [Act.put, List.setIfInBounds_toArray, List.set_cons_zero, List.set_cons_succ]
      refine par0 (fuel := 3) [2, 5, 8, 9, 10, 11] [8, 5, 2, 9, 10, 11] (fun i => decide (9 ≤ i)) (fun i => if i = 2 then .agg PP else if i = 5 then .agg QQ else .agg RR) (fun _ => Z) (fun _ => 24) #[true, true, true, true, true, true, true, true, true, true, true, true, false, false, false] _ rfl (by decide) (by decide) (by decide) rfl (by kernel_rfl) (by kernel_rfl) (by kernel_rfl) (by kernel_rfl) (by kernel_rfl) (by kernel_rfl) (by kernel_rfl) hS ?_ ?_
      · intro i hi
        simp only [List.mem_cons, List.not_mem_nil, or_false] at hi
        rcases hi with rfl | rfl | rfl | rfl | rfl | rfl
        · exact ⟨_, rfl, fun w _ => st_call (isA := fun i => decide (9 ≤ i)) (V := fun i => if i = 2 then .agg PP else if i = 5 then .agg QQ else .agg RR) (Zc := fun _ => Z) (ty := fun _ => 24) (i := 2) #[.agg X0, .agg X1] rfl rfl rfl enter_waves (by kernel_rfl) (CP.out _)⟩
        · exact ⟨_, rfl, fun w _ => st_call (isA := fun i => decide (9 ≤ i)) (V := fun i => if i = 2 then .agg PP else if i = 5 then .agg QQ else .agg RR) (Zc := fun _ => Z) (ty := fun _ => 24) (i := 5) #[.agg X2, .agg X3] rfl rfl rfl enter_waves (by kernel_rfl) (CQ.out _)⟩
        · exact ⟨_, rfl, fun w _ => st_call (isA := fun i => decide (9 ≤ i)) (V := fun i => if i = 2 then .agg PP else if i = 5 then .agg QQ else .agg RR) (Zc := fun _ => Z) (ty := fun _ => 24) (i := 8) #[.agg SS, .agg TT] rfl rfl rfl enter_waves (by kernel_rfl) (CR.out _)⟩
        · exact ⟨_, rfl, fun w _ => st_alloc (isA := fun i => decide (9 ≤ i)) (V := fun i => if i = 2 then .agg PP else if i = 5 then .agg QQ else .agg RR) (Zc := fun _ => Z) (ty := fun _ => 24) (i := 9) rfl rfl rfl rfl hz⟩
        · exact ⟨_, rfl, fun w _ => st_alloc (isA := fun i => decide (9 ≤ i)) (V := fun i => if i = 2 then .agg PP else if i = 5 then .agg QQ else .agg RR) (Zc := fun _ => Z) (ty := fun _ => 24) (i := 10) rfl rfl rfl rfl hz⟩
        · exact ⟨_, rfl, fun w _ => st_alloc (isA := fun i => decide (9 ≤ i)) (V := fun i => if i = 2 then .agg PP else if i = 5 then .agg QQ else .agg RR) (Zc := fun _ => Z) (ty := fun _ => 24) (i := 11) rfl rfl rfl rfl hz⟩
      clear hS
      intro val w' hS hY hV
      have v2 : val 2 = .agg PP := (hY 2 (by simp)).1 rfl
      have v5 : val 5 = .agg QQ := (hY 5 (by simp)).1 rfl
      have v8 : val 8 = .agg RR := (hY 8 (by simp)).1 rfl
      obtain ⟨b9, e9, a9, g9⟩ : ∃ b, val 9 = .pointer (some ⟨b, 0, none⟩) ∧ At w' b Z 24 ∧ wr.heap.size ≤ b := (hY 9 (by simp)).2 rfl
      obtain ⟨b10, e10, a10, g10⟩ : ∃ b, val 10 = .pointer (some ⟨b, 0, none⟩) ∧ At w' b Z 24 ∧ wr.heap.size ≤ b := (hY 10 (by simp)).2 rfl
      obtain ⟨b11, e11, a11, g11⟩ : ∃ b, val 11 = .pointer (some ⟨b, 0, none⟩) ∧ At w' b Z 24 ∧ wr.heap.size ≤ b := (hY 11 (by simp)).2 rfl
      have n9_10 : b9 ≠ b10 := fun e => hV 9 (by simp) 10 (by simp) (by decide) rfl rfl (by rw [e9, e10, e])
      have n9_11 : b9 ≠ b11 := fun e => hV 9 (by simp) 11 (by simp) (by decide) rfl rfl (by rw [e9, e11, e])
      have n10_9 : b10 ≠ b9 := fun e => hV 10 (by simp) 9 (by simp) (by decide) rfl rfl (by rw [e10, e9, e])
      have n10_11 : b10 ≠ b11 := fun e => hV 10 (by simp) 11 (by simp) (by decide) rfl rfl (by rw [e10, e11, e])
      have n11_9 : b11 ≠ b9 := fun e => hV 11 (by simp) 9 (by simp) (by decide) rfl rfl (by rw [e11, e9, e])
      have n11_10 : b11 ≠ b10 := fun e => hV 11 (by simp) 10 (by simp) (by decide) rfl rfl (by rw [e11, e10, e])
      show wpAnyH _ _ _ _ _ _ _ (Act.put (Act.put (Act.put (Act.put (Act.put (Act.put _ (some 55) (val 2)) (some 58) (val 5)) (some 61) (val 8)) (some 16) (val 9)) (some 17) (val 10)) (some 18) (val 11)) _
      rw [v2, v5, v8, e9, e10, e11]
      simp only [Act.put, List.setIfInBounds_toArray, List.set_cons_zero, List.set_cons_succ]
      clear hY hV v2 v5 v8 e9 e10 e11
      refine mv_store (i := 12) b9 PP _ rfl rfl (by kernel_rfl) (by rfl) rfl rfl rfl a9 (by rw [HZ.out.1, SP.out]) OP.out (HI.out _ SP.out) g9 hS (fun hS => ?_)
      refine mv_store (i := 13) b10 QQ _ rfl rfl (by kernel_rfl) (by rfl) rfl rfl rfl (a10.setRow_other n10_9) (by rw [HZ.out.1, SQ.out]) OQ.out (HI.out _ SQ.out) g10 hS (fun hS => ?_)
      refine mv_store (i := 14) b11 RR _ rfl rfl (by kernel_rfl) (by rfl) rfl rfl rfl ((a11.setRow_other n11_9).setRow_other n11_10) (by rw [HZ.out.1, SR.out]) OR.out (HI.out _ SR.out) g11 hS (fun hS => ?_)
      refine mv_done (by kernel_rfl) ?_
      have P9 := Lib.hid (((a9.setRow (C := PP)).setRow_other (C := QQ) n9_10).setRow_other (C := RR) n9_11)
      have P10 := Lib.hid (((a10.setRow_other (C := PP) n10_9).setRow (C := QQ)).setRow_other (C := RR) n10_11)
      have P11 := Lib.hid (((a11.setRow_other (C := PP) n11_9).setRow_other (C := QQ) n11_10).setRow (C := RR))
      have hstart : Ad3 w (((w'.setRow b9 PP).setRow b10 QQ).setRow b11 RR) PP QQ RR b9 b10 b11 := ⟨below_trans BW.out hS BW.out.size, P9.out, P10.out, P11.out⟩
      revert hstart
      generalize (((w'.setRow b9 PP).setRow b10 QQ).setRow b11 RR) = W3
      intro hstart
      clear hS P9 P10 P11 BW Q0 Q1 Q2 Q3 Q4' Q5' CP CQ CR C0 C1 C2 C3
      go_wp2
      go_loopw [19] (fun i w' => ∃ k : Nat, k ≤ 16 ∧ i = .int .i64 k ∧ Ad3 w w' PP QQ RR b9 b10 b11) (fun i _ => 16 - (intOf i).toNat)
      case atStart => exact ⟨0, Nat.zero_le _, rfl, hstart⟩
      case round =>
        obtain ⟨k, hk, rfl, hinv⟩ := hrel
        clear hstart
        obtain ⟨hb, q0, q1, q2⟩ := hinv
        by_cases hk16 : k < 16
        · have c0 := RP.out.cell q0 k hk16
          have c1 := RQ.out.cell q1 k hk16
          have c2 := RR'.out.cell q2 k hk16
          have B0 := Lib.hid hb
          have Q0 := Lib.hid q0
          have Q1 := Lib.hid q1
          have Q2 := Lib.hid q2
          obtain ⟨s1, s2⟩ := le_ab (w_adds (smS f0) (smS f1) (smS f2) (smS f3) k)
          obtain ⟨p1, p2⟩ := le_ab (w_small (sm_le f0) (sm_le f1) k)
          obtain ⟨q1', q2'⟩ := le_ab (w_small (sm_le f2) (sm_le f3) k)
          generalize wS (smS f0) (smS f1) k = p at *
          generalize wS (smS f2) (smS f3) k = q at *
          generalize wS (fun i => smS f0 i + smS f2 i) (fun i => smS f1 i + smS f3 i) k = r at *
          have k1 : (k : Int) < 16 := by omega
          have hm1 : IntKind.i64.wrap (r - p) = r - p := IntWalk.i64_in _ (by omega)
          have hm2 : IntKind.i64.wrap (r - p - q) = r - p - q := IntWalk.i64_in _ (by omega)
          clear q0 q1 q2 hb
          go_wp2_with fail
          go_quiet (fail)
          clear hm1 hm2
          go_wp2
          go_roundw
          case rel => exact ⟨k + 1, by omega, by go_num, below_drewN B0.out _, Q0.out, Q1.out, Q2.out⟩
          case measure => simp [intOf]; omega
        · go_wp2
          go_ret
          exact ⟨rfl, hb⟩
end Go.Proofs.Ytabenllglldkkaa.Md
