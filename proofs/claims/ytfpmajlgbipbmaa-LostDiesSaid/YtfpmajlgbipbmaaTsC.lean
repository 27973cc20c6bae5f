/- TlC without Lift: tilt.Lay, tilt.Sound. -/
import Derived.Test.YtfpmajlgbipbmaaTsB
namespace Go.Proofs.Ytfpmajlgbipbmaa.Tl
open Go.RowKit Go.Proofs.Ytfpmajlgbipbmaa.Row
set_option linter.unusedVariables false

theorem enter_each (args : Array Value) (w : World) : (callFunc 38 args).run Try.prog w = .ok (.enter 38 args) w := run_enter Try.func38 (by kernel_rfl) rfl args w

theorem enter_layer (args : Array Value) (w : World) : (callFunc 39 args).run Try.prog w = .ok (.enter 39 args) w := run_enter Try.func39 (by kernel_rfl) rfl args w

theorem enter_cut (args : Array Value) (w : World) : (callFunc 23 args).run Try.prog w = .ok (.enter 23 args) w := run_enter Try.func23 (by kernel_rfl) rfl args w

set_option maxRecDepth 100000 in
set_option maxHeartbeats 1000000 in
theorem sound_any (T : Array Value) (f : Nat → Int) (w : World) (hT : IsRow 16 f T) :
    Calls Try.prog 26 #[.agg T] w fun e w' => e = .returned (.agg (rowL 16 (fun k => ct16 (f k)) 16)) ∧ Below w.heap.size w w' := by
  obtain ⟨Z, hZ, hZ0, hz, hi⟩ := zero_block
  have HT := Lib.hid hT
  have HZ := Lib.hid hZ
  have HI := Lib.hid hi
  have H0 := Lib.hid ((At.new w T 29).alloc (.cells Z 29))
  have h1 := At.new (w.alloc (.cells T 29)) Z 29
  rw [World.size_alloc] at h1
  have H1 := Lib.hid h1
  have HB := Lib.hid (((Below.refl w.heap.size w).alloc (Nat.le_refl _) (.cells T 29)).alloc (by simp) (.cells Z 29))
  clear hT hZ0 hi hZ h1
  go_enter Try.func26, Try.ntmps26
  go_wp2_with (refine wpList_load_row rfl 29 _ rfl w.heap.size rfl _ _ (0, 0) _ H0.out Try.underlying29 rfl (HI.out _ HT.out.1) ?_)
  refine (each_so T f _ HT.out).mono ?_
  rintro e w1 ⟨rfl, hw1⟩
  have G1 := Lib.hid (H1.out.below hw1 H1.out.lt)
  have GB := Lib.hid (below_trans HB.out hw1 HB.out.size)
  clear H0 H1 HB hw1
  go_wp2_with (refine wpList_store_row rfl 29 _ _ rfl (w.heap.size + 1) (rowL 16 (fun k => ct16 (f k)) 16) rfl rfl _ _ G1.out (HI.out _ (rowL_size _ _ _)) (by rw [HZ.out.1, rowL_size]) (rowL_one _ _ _) ?_)
  exact bodyPost_ret (v := .agg (rowL 16 (fun k => ct16 (f k)) 16)) (results_cell_row rfl _ _ (w.heap.size + 1) 29 (rowL 16 (fun k => ct16 (f k)) 16) (0, 0) _ rfl G1.out.setRow Try.underlying29 rfl (HI.out _ (rowL_size _ _ _))) rfl ⟨rfl, below_setRow' GB.out (by omega) _⟩

/-- What holds while Lift works: its frame, the result's row. -/
def LiS (w : World) (T : Array Value) (w' : World) : Prop := Below w.heap.size w w' ∧ w.heap.size + 1 + 1 ≤ w'.heap.size ∧ At w' w.heap.size T 29 ∧ ∃ A : Array Value, A.size = 16 ∧ At w' (w.heap.size + 1) A 29

theorem LiS.start (w : World) (T Z : Array Value) (hZ : Z.size = 16) : LiS w T ((w.alloc (.cells T 29)).alloc (.cells Z 29)) := by
  refine ⟨((Below.refl _ _).alloc (Nat.le_refl _) _).alloc (by simp) _, by simp, (At.new _ _ _).alloc _, Z, hZ, ?_⟩
  have := At.new (w.alloc (.cells T 29)) Z 29
  simpa using this

theorem LiS.drew {w w' : World} {T : Array Value} (h : LiS w T w') : LiS w T w'.drew := ⟨h.1.drew, h.2⟩

theorem LiS.below {w w1 w2 : World} {T : Array Value} {B : Nat} (h : LiS w T w1) (hb : Below B w1 w2) (hB : w.heap.size + 1 + 1 ≤ B) : LiS w T w2 := by
  obtain ⟨h0, h1, h2, A, hA, h3⟩ := h
  have := hb.size
  exact ⟨h0.trans (hb.mono (by omega)), by omega, h2.below hb (by omega), A, hA, h3.below hb (by omega)⟩

theorem LiS.alloc {w w1 : World} {T : Array Value} (h : LiS w T w1) (o : Obj) : LiS w T (w1.alloc o) := by
  obtain ⟨h0, h1, h2, A, hA, h3⟩ := h
  exact ⟨h0.alloc (by omega) _, by simp; omega, h2.alloc _, A, hA, h3.alloc _⟩

theorem LiS.set {w w1 : World} {T R : Array Value} (h : LiS w T w1) (hR : R.size = 16) : LiS w T (w1.setRow (w.heap.size + 1) R) := by
  obtain ⟨h0, h1, h2, A, hA, h3⟩ := h
  exact ⟨below_setRow' h0 (by omega) _, by rw [size_setRow]; exact h1, h2.setRow_other (by omega), R, hR, h3.setRow⟩

theorem LiS.setb {w w1 : World} {T R : Array Value} {b : Nat} (h : LiS w T w1) (hb : w.heap.size + 1 + 1 ≤ b) : LiS w T (w1.setRow b R) := by
  obtain ⟨h0, h1, h2, A, hA, h3⟩ := h
  exact ⟨below_setRow' h0 (by omega) _, by rw [size_setRow]; exact h1, h2.setRow_other (by omega), A, hA, h3.setRow_other (by omega)⟩

set_option maxRecDepth 100000 in
set_option maxHeartbeats 1000000 in
theorem lay_any (last : Int) (T : Array Value) (f : Nat → Int) (w : World) (hT : IsRow 16 f T) :
    Calls Try.prog 24 #[.int .i64 last, .agg T] w fun e w' => e = .returned (.tuple #[.agg (rowL 16 (laS last f) 16), .int .i64 (laS last f 15)]) ∧ Below w.heap.size w w' := by
  obtain ⟨Z, hZ, hZ0, hz, hi⟩ := zero_block
  have HT := Lib.hid hT
  have HZ := Lib.hid hZ
  have HI := Lib.hid hi
  have HS := Lib.hid (LiS.start w T Z hZ.1)
  obtain ⟨p, hp⟩ : ∃ p, laS last f 15 = p := ⟨_, rfl⟩
  obtain ⟨s, hs⟩ : ∃ s, ct22 last = s := ⟨_, rfl⟩
  obtain ⟨R, hR⟩ : ∃ R, rowL 16 (laS last f) 16 = R := ⟨_, rfl⟩
  have RR := Lib.hid (show IsRow 16 (laS last f) R by rw [← hR]; exact isRow _ _)
  have CE := Lib.hid (fun c w h => each_la T f last s c w hT hs h)
  rw [hR] at CE
  rw [hp, hR]
  have HP := Lib.hid hp
  have HL := Lib.hid hs
  clear hT hZ0 hi hZ hp hs hR
  go_enter Try.func24, Try.ntmps24
  go_wp2_with fail
  revert HS
  generalize (w.alloc (.cells T 29)).alloc (.cells Z 29) = W
  intro HS
  have hge := HS.out.2.1
  refine Code.wp_mono (Q := fun e a' w' => e = .normal ∧ ∃ (b : Nat) (u : Value), LiS w T w' ∧ w.heap.size + 1 + 1 ≤ b ∧ At w' b R 29 ∧
    a' = ⟨#[.int .i64 last, .agg T, undef, .pointer (some ⟨w.heap.size, 0, none⟩), .pointer (some ⟨w.heap.size + 1, 0, none⟩), .int .i64 0, .pointer (some ⟨b, 0, none⟩), .agg T, .int .i64 last, u, .agg R, undef, undef, undef], []⟩) ?_ ?_
  rotate_left
  · refine mv_startS (LiS w T) HS.out.drew fun hS => ?_
    refine mv_yield (i := 0) (d := 7) (.agg T) rfl rfl (by kernel_rfl) (by kernel_rfl) (by kernel_rfl) hS (y_loadS (by rfl) rfl rfl (fun _ h => h.2.2.1) Try.underlying29 (HI.out _ HT.out.1)) ?_
    simp only [Act.put, List.setIfInBounds_toArray, List.set_cons_zero, List.set_cons_succ]
    refine mv_yield (i := 1) (d := 8) (.int .i64 last) rfl rfl (by kernel_rfl) (by kernel_rfl) (by kernel_rfl) hS (y_run (by rfl) fun _ => by rfl) ?_
    simp only [Act.put, List.setIfInBounds_toArray, List.set_cons_zero, List.set_cons_succ]
    refine mv_ready [2, 4] (by kernel_rfl) (by simp) (ar_callP (d := 9) #[.int .i64 last] rfl rfl (by rfl) rfl enter_layer (by kernel_rfl) (layer_any last s _ HL.out) (fun w' h => by rw [h]; exact hS.alloc _) ?_ (ar_alloc (d := 6) rfl rfl (by rfl) rfl hz (hS.alloc _) ?_ AllReadyH.nil))
    · rintro w1 h1 hS1
      clear hS
      simp only [Act.put, List.setIfInBounds_toArray, List.set_cons_zero, List.set_cons_succ]
      have hc : At w1 W.drew.heap.size #[.int .i64 s] 3 := by rw [h1]; exact At.new _ _ _
      have hlt := hc.lt
      clear h1
      refine mv_ready [3, 4] (by kernel_rfl) (by simp) (ar_callP (d := 10) #[.agg T, .func (.func 49) #[] #[.pointer (some ⟨W.drew.heap.size, 0, none⟩)]] rfl rfl (by rfl) rfl enter_each (by kernel_rfl) (CE.out _ _ hc) (fun w' h => hS1.below h.1 hge) ?_ (ar_alloc (d := 6) rfl rfl (by rfl) rfl hz (hS1.alloc _) ?_ AllReadyH.nil))
      · rintro w2 _ hS2
        clear hS1 hc
        simp only [Act.put, List.setIfInBounds_toArray, List.set_cons_zero, List.set_cons_succ]
        refine mv_ready [4] (by kernel_rfl) (by simp) (ar_alloc (d := 6) rfl rfl (by rfl) rfl hz (hS2.alloc _) (fun hS3 => ?_) AllReadyH.nil)
        simp only [Act.put, List.setIfInBounds_toArray, List.set_cons_zero, List.set_cons_succ]
        have hb := hS2.2.1
        have a1 := At.new w2 Z 29
        refine mv_ready [5] (by kernel_rfl) (by simp) (ar_store w2.heap.size R Z rfl rfl (by rfl) rfl rfl rfl a1 (by rw [HZ.out.1, RR.out.1]) RR.out.2.1 (HI.out _ RR.out.1) (hS3.setb hb) (fun hS4 => ?_) AllReadyH.nil)
        exact mv_done (by kernel_rfl) ⟨rfl, w2.heap.size, _, hS4, hb, a1.setRow, rfl⟩
      · intro hS2
        simp only [Act.put, List.setIfInBounds_toArray, List.set_cons_zero, List.set_cons_succ]
        have hb := hS1.2.1
        have a1 := At.new w1 Z 29
        refine mv_ready [3] (by kernel_rfl) (by simp) (ar_callP (d := 10) #[.agg T, .func (.func 49) #[] #[.pointer (some ⟨W.drew.heap.size, 0, none⟩)]] rfl rfl (by rfl) rfl enter_each (by kernel_rfl) (CE.out _ _ (hc.alloc _)) (fun w' h => hS2.below h.1 hge) ?_ AllReadyH.nil)
        rintro w3 h3 hS3
        simp only [Act.put, List.setIfInBounds_toArray, List.set_cons_zero, List.set_cons_succ]
        have a2 := h3.2.at a1 (by omega)
        refine mv_ready [5] (by kernel_rfl) (by simp) (ar_store w1.heap.size R Z rfl rfl (by rfl) rfl rfl rfl a2 (by rw [HZ.out.1, RR.out.1]) RR.out.2.1 (HI.out _ RR.out.1) (hS3.setb hb) (fun hS4 => ?_) AllReadyH.nil)
        exact mv_done (by kernel_rfl) ⟨rfl, w1.heap.size, _, hS4, hb, a2.setRow, rfl⟩
    · intro hS1
      simp only [Act.put, List.setIfInBounds_toArray, List.set_cons_zero, List.set_cons_succ]
      have a1 := At.new W.drew Z 29
      have l1 : W.drew.heap.size < (W.drew.alloc (.cells Z 29)).heap.size := a1.lt
      refine mv_ready [2] (by kernel_rfl) (by simp) (ar_callP (d := 9) #[.int .i64 last] rfl rfl (by rfl) rfl enter_layer (by kernel_rfl) (layer_any last s _ HL.out) (fun w' h => by rw [h]; exact hS1.alloc _) ?_ AllReadyH.nil)
      rintro w2 h2 hS2
      simp only [Act.put, List.setIfInBounds_toArray, List.set_cons_zero, List.set_cons_succ]
      have hc : At w2 (W.drew.alloc (.cells Z 29)).heap.size #[.int .i64 s] 3 := by rw [h2]; exact At.new _ _ _
      have a2 : At w2 W.drew.heap.size Z 29 := by rw [h2]; exact a1.alloc _
      have hg2 : w.heap.size + 1 + 1 ≤ (W.drew.alloc (.cells Z 29)).heap.size := Nat.le_trans hge (Nat.le_of_lt l1)
      clear h2
      refine mv_ready [3] (by kernel_rfl) (by simp) (ar_callP (d := 10) #[.agg T, .func (.func 49) #[] #[.pointer (some ⟨(W.drew.alloc (.cells Z 29)).heap.size, 0, none⟩)]] rfl rfl (by rfl) rfl enter_each (by kernel_rfl) (CE.out _ _ hc) (fun w' h => hS2.below h.1 hg2) ?_ AllReadyH.nil)
      rintro w3 h3 hS3
      simp only [Act.put, List.setIfInBounds_toArray, List.set_cons_zero, List.set_cons_succ]
      have a3 := a2.below h3.1 l1
      refine mv_ready [5] (by kernel_rfl) (by simp) (ar_store W.drew.heap.size R Z rfl rfl (by rfl) rfl rfl rfl a3 (by rw [HZ.out.1, RR.out.1]) RR.out.2.1 (HI.out _ RR.out.1) (hS3.setb hge) (fun hS4 => ?_) AllReadyH.nil)
      exact mv_done (by kernel_rfl) ⟨rfl, W.drew.heap.size, _, hS4, hge, a3.setRow, rfl⟩
  · rintro e a' w1 ⟨rfl, b, u, hS0, hb, a1, rfl⟩
    clear hge HS
    have HS := Lib.hid hS0
    have A1 := Lib.hid a1
    clear hS0 a1
    go_wp2_with fail
    refine mv_startS (fun w' => LiS w T w' ∧ At w' b R 29) ⟨HS.out.drew, A1.out⟩ fun hS => ?_
    refine mv_yield (i := 0) (d := 11) (.agg R) rfl rfl (by kernel_rfl) (by kernel_rfl) (by kernel_rfl) hS (y_loadS (by rfl) rfl rfl (fun _ h => h.2) Try.underlying29 (HI.out _ RR.out.1)) ?_
    simp only [Act.put, List.setIfInBounds_toArray, List.set_cons_zero, List.set_cons_succ]
    refine mv_yield (i := 1) (d := 12) (.pointer (some ⟨b, 15, none⟩)) rfl rfl (by kernel_rfl) (by kernel_rfl) (by kernel_rfl) hS (y_at (m := 16) (k := 15) (by rfl) rfl rfl rfl Try.underlying29 rfl (by omega)) ?_
    simp only [Act.put, List.setIfInBounds_toArray, List.set_cons_zero, List.set_cons_succ]
    refine mv_yield (i := 2) (d := 13) (.int .i64 p) rfl rfl (by kernel_rfl) (by kernel_rfl) (by kernel_rfl) hS (y_cellS (by rfl) rfl rfl (fun _ h => by rw [← HP.out]; exact RR.out.cell h.2 15 (by omega))) ?_
    simp only [Act.put, List.setIfInBounds_toArray, List.set_cons_zero, List.set_cons_succ]
    obtain ⟨⟨b0, b1, b2, A, hA, b3⟩, b4⟩ := hS
    refine mv_ready [3] (by kernel_rfl) (by simp) (ar_store (w.heap.size + 1) R A rfl rfl (by rfl) rfl rfl rfl b3 (by rw [hA, RR.out.1]) RR.out.2.1 (HI.out _ RR.out.1) ⟨LiS.set ⟨b0, b1, b2, A, hA, b3⟩ RR.out.1, b4.setRow_other (by omega)⟩ (fun hS => ?_) AllReadyH.nil)
    have G1 := Lib.hid (b3.setRow (C := R))
    have GB := Lib.hid hS.1.1
    clear b0 b1 b2 b3 b4
    refine mv_yield (i := 4) (d := 5) (.int .i64 p) rfl rfl (by kernel_rfl) (by kernel_rfl) (by kernel_rfl) hS (y_run (by rfl) fun _ => by rfl) ?_
    simp only [Act.put, List.setIfInBounds_toArray, List.set_cons_zero, List.set_cons_succ]
    clear hS
    refine mv_done (by kernel_rfl) ?_
    go_wp2
    exact bodyPost_ret (v := .tuple #[.agg R, .int .i64 p]) (results_row_int rfl _ _ (w.heap.size + 1) R _ _ rfl rfl G1.out Try.underlying29 (HI.out _ RR.out.1)) rfl ⟨rfl, GB.out⟩
end Go.Proofs.Ytfpmajlgbipbmaa.Tl
