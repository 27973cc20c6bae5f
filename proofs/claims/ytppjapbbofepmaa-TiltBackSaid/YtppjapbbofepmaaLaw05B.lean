/- The statements' walks of layer 5, second part: TiltBack. -/
import Derived.Test.YtppjapbbofepmaaLaw05A
namespace Go.Proofs.Ytppjapbbofepmaa.Tl
open Go.RowKit Go.Proofs.Ytppjapbbofepmaa.Row

/-- A number compared with itself. -/
theorem y_eqi {ops : Array Oper} {S : World → Prop} {a : Act} {oi : Oper} {t' : TypeId} {x y : Operand} {n : Int} (hw : Region.wanted oi (yielded ops a.tmps) = true) (ho : oi.op = .binOp .eql 3 x y t') (hx : a.eval x = .int .i64 n) (hy : a.eval y = .int .i64 n) : YieldsIf Try.prog ops S oi (.bool true) a :=
  y_run hw fun w => by
    unfold execOp
    simp only [ho, hx, hy]
    simp [go_sem]

theorem tmod_bd (x : Int) : -32767 ≤ x.tmod 32768 ∧ x.tmod 32768 ≤ 32767 := by
  rcases Int.le_total 0 x with h | h
  · rw [Int.tmod_eq_emod_of_nonneg h]; omega
  · have e := Int.neg_tmod (-x) 32768
    rw [Int.neg_neg] at e
    rw [e, Int.tmod_eq_emod_of_nonneg (by omega)]; omega

def md (f : Nat → Int) (k : Nat) : Int := (f k).tmod 32768
theorem md_bd (f : Nat → Int) (k : Nat) : -32768 ≤ md f k ∧ md f k ≤ 32767 := by have := tmod_bd (f k); unfold md; omega

/-- A walk's world of a row that is filled. -/
def BackInv (w w' : World) (T : Array Value) (g : Nat → Int) (b k : Nat) : Prop := Below w.heap.size w w' ∧ w.heap.size < b ∧ At w' w.heap.size T 22 ∧ At w' b (rowL 16 g k) 24

set_option maxRecDepth 100000 in
set_option maxHeartbeats 1000000 in
theorem tiltBack_walk (last : Int) (T : Array Value) (f : Nat → Int) (hT : IsRow 16 f T) (w : World) :
    Calls Try.prog 3 #[.int .i64 last, .agg T] w fun e w' => e = .returned (.bool true) ∧ Below w.heap.size w w' := by
  obtain ⟨Z, hZ, hZ0, hz, hi⟩ := zero_block
  have HT := Lib.hid hT
  have HZ := Lib.hid hZ
  have ZE := Lib.hid hZ0
  have HI := Lib.hid hi
  obtain ⟨n, hn⟩ : ∃ n, last.tmod 32768 = n := ⟨_, rfl⟩
  have hnb : -32768 ≤ n ∧ n ≤ 32767 := by have := tmod_bd last; omega
  obtain ⟨X, hX⟩ : ∃ A, rowL 16 (md f) 16 = A := ⟨_, rfl⟩
  obtain ⟨Y, hY⟩ : ∃ A, rowL 16 (liS n (md f)) 16 = A := ⟨_, rfl⟩
  have rX : IsRow 16 (md f) X := by rw [← hX]; exact isRow _ _
  have rY : IsRow 16 (liS n (md f)) Y := by rw [← hY]; exact isRow _ _
  obtain ⟨x, hx⟩ : ∃ x, md f 15 = x := ⟨_, rfl⟩
  have ein : ∀ k, ct22 (md f k) = md f k := fun k => ct22_in (by have := md_bd f k; omega) (by have := md_bd f k; omega)
  have CL := Lib.hid (fun w => lift_any n X (md f) w rX)
  rw [hY, ein, hx] at CL
  have ela : ∀ k, laS n (liS n (md f)) k = md f k := fun k => (back hnb (md_bd f) (k + 1)).trans (ein k)
  have CA := Lib.hid (fun w => lay_any n Y (liS n (md f)) w rY)
  rw [show rowL 16 (laS n (liS n (md f))) 16 = X from (isRow _ _).eq rX fun k _ => ela k, ela, hx] at CA
  have CS := Lib.hid (fun w => sound_any X (md f) w rX)
  rw [show rowL 16 (fun k => ct16 (md f k)) 16 = X from (isRow _ _).eq rX fun k _ => ct16_in (md_bd f k).1 (md_bd f k).2] at CS
  have e1 := rows_eq rX rX (fun _ _ => rfl) Try.underlying24
  have RX := Lib.hid rX
  have RY := Lib.hid rY
  have EX := Lib.hid hX
  have EX15 := Lib.hid hx
  have A0 := Lib.hid (At.new w T 22)
  have B0 := Lib.hid ((Below.refl w.heap.size w).alloc (Nat.le_refl _) (.cells T 22))
  clear hT hZ hi hZ0 hX hY rX rY hx ein ela hnb
  go_enter Try.func3, Try.ntmps3
  go_wp2_with fail
  refine (awake_yes _).mono ?_
  rintro e w1 ⟨rfl, hw1⟩
  have A2 := Lib.hid (A0.out.below hw1 A0.out.lt)
  have B1 := Lib.hid (below_trans B0.out hw1 B0.out.size)
  clear A0 B0 hw1
  go_wp2
  have hstart : BackInv w (w1.alloc (.cells Z 24)) T (md f) w1.heap.size 0 := ⟨B1.out.alloc B1.out.size _, A2.out.lt, A2.out.alloc _, by rw [ZE.out]; exact At.new _ _ _⟩
  revert hstart
  generalize w1.alloc (.cells Z 24) = W
  generalize w1.heap.size = b
  intro hstart
  clear A2 B1
  go_loopw [7] (fun i w' => ∃ k : Nat, k ≤ 16 ∧ i = .int .i64 k ∧ BackInv w w' T (md f) b k) (fun i _ => 16 - (intOf i).toNat)
  case atStart => exact ⟨0, Nat.zero_le _, rfl, hstart⟩
  case round =>
    obtain ⟨k, hk, rfl, hb, hlt, h0, h1⟩ := hrel
    clear hstart
    have H0 := Lib.hid h0
    have H1 := Lib.hid h1
    by_cases hk16 : k < 16
    · have c0 := HT.out.cell h0 k hk16
      have c1 := rowL_cell h1 k hk16
      have f1 := h1.frozen k
      obtain ⟨y, hy⟩ : ∃ x, f k = x := ⟨_, rfl⟩
      have HY := Lib.hid (show md f k = y.tmod 32768 by unfold md; rw [hy])
      rw [hy] at c0
      have k1 : (k : Int) < 16 := by omega
      clear h0 h1 hy
      go_wp2
      go_roundw
      case rel => exact ⟨k + 1, by omega, by go_num, hb.setCell (by dsimp only; omega) _, hlt, H0.out.setCell_other (by dsimp only; omega), by rw [← HY.out]; exact H1.out.put hk16⟩
      case measure => simp [intOf]; omega
    · obtain rfl : k = 16 := by omega
      rw [EX.out] at h1
      have G1 := Lib.hid h1
      clear h0 h1 H0 H1
      go_wp2_with (refine wpList_load_wanted (by rfl) 24 _ rfl b rfl _ _ _ _ G1.out Try.underlying24 (HI.out _ RX.out.1) ?_)
      refine (CL.out _).mono ?_
      rintro e w2 ⟨rfl, hw2⟩
      have G2 := Lib.hid (G1.out.below hw2 G1.out.lt)
      have B2 := Lib.hid (below_trans hb hw2 hb.size)
      clear G1 hb hw2
      have N2 := Lib.hid (At.new w2 Y 24)
      go_wp2_with (first
        | (refine wpList_store_row rfl 24 _ _ rfl w2.heap.size Y rfl rfl _ _ (heap_alloc_new _ _) (HI.out _ RY.out.1) (by rw [RY.out.1, HZ.out.1]) RY.out.2.1 ?_
           rw [World.setRow_alloc_new])
        | refine wpList_load_wanted (by rfl) 24 _ rfl w2.heap.size rfl _ _ _ _ N2.out Try.underlying24 (HI.out _ RY.out.1) ?_)
      refine (CA.out _).mono ?_
      rintro e w3 ⟨rfl, hw3⟩
      have G3 := Lib.hid ((G2.out.alloc (.cells Y 24)).below hw3 (G2.out.alloc _).lt)
      have B3 := Lib.hid (below_trans (B2.out.alloc B2.out.size (.cells Y 24)) hw3 (Nat.le_trans B2.out.size (by simp)))
      clear G2 B2 N2 hw3
      go_wp2_with (refine wpList_store_row rfl 24 _ _ rfl w3.heap.size X rfl rfl _ _ (heap_alloc_new _ _) (HI.out _ RX.out.1) (by rw [RX.out.1, HZ.out.1]) RX.out.2.1 ?_)
      rw [World.setRow_alloc_new]
      have G4 := Lib.hid (G3.out.alloc (.cells X 24))
      have N4 := Lib.hid (At.new w3 X 24)
      have B4 := Lib.hid (B3.out.alloc B3.out.size (.cells X 24))
      have c15 := RX.out.cell G4.out 15 (by omega)
      rw [EX15.out] at c15
      clear G3 B3
      revert G4 N4 B4 c15
      generalize w3.alloc (.cells X 24) = W4
      generalize w3.heap.size = b3
      intro G4 N4 B4 c15
      refine mv_start fun hS => ?_
      refine mv_yield (i := 0) (d := 38) (.agg X) rfl rfl (by kernel_rfl) (by kernel_rfl) (by kernel_rfl) hS (y_load (by rfl) rfl rfl N4.out Try.underlying24 (HI.out _ RX.out.1)) ?_
      simp only [Act.put, List.setIfInBounds_toArray, List.set_cons_zero, List.set_cons_succ]
      refine mv_yield (i := 1) (d := 39) (.agg X) rfl rfl (by kernel_rfl) (by kernel_rfl) (by kernel_rfl) hS (y_load (by rfl) rfl rfl G4.out Try.underlying24 (HI.out _ RX.out.1)) ?_
      simp only [Act.put, List.setIfInBounds_toArray, List.set_cons_zero, List.set_cons_succ]
      refine mv_yield (i := 2) (d := 40) (.bool true) rfl rfl (by kernel_rfl) (by kernel_rfl) (by kernel_rfl) hS (y_eql (by rfl) rfl rfl rfl no_guard e1) ?_
      simp only [Act.put, List.setIfInBounds_toArray, List.set_cons_zero, List.set_cons_succ]
      refine mv_yield (i := 3) (d := 41) (.bool true) rfl rfl (by kernel_rfl) (by kernel_rfl) (by kernel_rfl) hS (y_run (by rfl) fun _ => by rfl) ?_
      simp only [Act.put, List.setIfInBounds_toArray, List.set_cons_zero, List.set_cons_succ]
      refine mv_yield (i := 4) (d := 42) (.int .i64 x) rfl rfl (by kernel_rfl) (by kernel_rfl) (by kernel_rfl) hS (y_run (by rfl) fun _ => by rfl) ?_
      simp only [Act.put, List.setIfInBounds_toArray, List.set_cons_zero, List.set_cons_succ]
      refine mv_yield (i := 5) (d := 43) (.pointer (some ⟨b, 15, none⟩)) rfl rfl (by kernel_rfl) (by kernel_rfl) (by kernel_rfl) hS (y_at (m := 16) (k := 15) (by rfl) rfl rfl rfl Try.underlying24 rfl (by omega)) ?_
      simp only [Act.put, List.setIfInBounds_toArray, List.set_cons_zero, List.set_cons_succ]
      refine mv_yield (i := 6) (d := 44) (.int .i64 x) rfl rfl (by kernel_rfl) (by kernel_rfl) (by kernel_rfl) hS (y_cell (by rfl) rfl rfl c15) ?_
      simp only [Act.put, List.setIfInBounds_toArray, List.set_cons_zero, List.set_cons_succ]
      refine mv_yield (i := 7) (d := 45) (.bool true) rfl rfl (by kernel_rfl) (by kernel_rfl) (by kernel_rfl) hS (y_eqi (by rfl) rfl rfl rfl) ?_
      simp only [Act.put, List.setIfInBounds_toArray, List.set_cons_zero, List.set_cons_succ]
      refine mv_yield (i := 8) (d := 46) (.bool true) rfl rfl (by kernel_rfl) (by kernel_rfl) (by kernel_rfl) hS (y_run (by rfl) fun _ => by rfl) ?_
      simp only [Act.put, List.setIfInBounds_toArray, List.set_cons_zero, List.set_cons_succ]
      refine mv_yield (i := 9) (d := 47) (.bool true) rfl rfl (by kernel_rfl) (by kernel_rfl) (by kernel_rfl) hS (y_run (by rfl) fun _ => by rfl) ?_
      simp only [Act.put, List.setIfInBounds_toArray, List.set_cons_zero, List.set_cons_succ]
      refine mv_yield (i := 10) (d := 48) (.int .i64 x) rfl rfl (by kernel_rfl) (by kernel_rfl) (by kernel_rfl) hS (y_run (by rfl) fun _ => by rfl) ?_
      simp only [Act.put, List.setIfInBounds_toArray, List.set_cons_zero, List.set_cons_succ]
      refine mv_yield (i := 11) (d := 49) (.pointer (some ⟨b, 15, none⟩)) rfl rfl (by kernel_rfl) (by kernel_rfl) (by kernel_rfl) hS (y_at (m := 16) (k := 15) (by rfl) rfl rfl rfl Try.underlying24 rfl (by omega)) ?_
      simp only [Act.put, List.setIfInBounds_toArray, List.set_cons_zero, List.set_cons_succ]
      refine mv_yield (i := 12) (d := 50) (.int .i64 x) rfl rfl (by kernel_rfl) (by kernel_rfl) (by kernel_rfl) hS (y_cell (by rfl) rfl rfl c15) ?_
      simp only [Act.put, List.setIfInBounds_toArray, List.set_cons_zero, List.set_cons_succ]
      refine mv_yield (i := 13) (d := 51) (.bool true) rfl rfl (by kernel_rfl) (by kernel_rfl) (by kernel_rfl) hS (y_eqi (by rfl) rfl rfl rfl) ?_
      simp only [Act.put, List.setIfInBounds_toArray, List.set_cons_zero, List.set_cons_succ]
      refine mv_yield (i := 14) (d := 52) (.bool true) rfl rfl (by kernel_rfl) (by kernel_rfl) (by kernel_rfl) hS (y_run (by rfl) fun _ => by rfl) ?_
      simp only [Act.put, List.setIfInBounds_toArray, List.set_cons_zero, List.set_cons_succ]
      refine mv_yield (i := 15) (d := 53) (.bool true) rfl rfl (by kernel_rfl) (by kernel_rfl) (by kernel_rfl) hS (y_run (by rfl) fun _ => by rfl) ?_
      simp only [Act.put, List.setIfInBounds_toArray, List.set_cons_zero, List.set_cons_succ]
      refine mv_yield (i := 16) (d := 54) (.agg X) rfl rfl (by kernel_rfl) (by kernel_rfl) (by kernel_rfl) hS (y_load (by rfl) rfl rfl N4.out Try.underlying24 (HI.out _ RX.out.1)) ?_
      simp only [Act.put, List.setIfInBounds_toArray, List.set_cons_zero, List.set_cons_succ]
      refine mv_yield (i := 18) (d := 56) (.agg X) rfl rfl (by kernel_rfl) (by kernel_rfl) (by kernel_rfl) hS (y_load (by rfl) rfl rfl G4.out Try.underlying24 (HI.out _ RX.out.1)) ?_
      simp only [Act.put, List.setIfInBounds_toArray, List.set_cons_zero, List.set_cons_succ]
      refine mv_call (i := 17) (d := 55) (v := .agg X) #[.agg X] rfl rfl (by kernel_rfl) (by rfl) rfl hS enter_sound (by kernel_rfl) (CS.out _) ?_
      clear hS
      rintro w' hS
      simp only [Act.put, List.setIfInBounds_toArray, List.set_cons_zero, List.set_cons_succ]
      refine mv_yield (i := 19) (d := 57) (.bool true) rfl rfl (by kernel_rfl) (by kernel_rfl) (by kernel_rfl) hS (y_eql (by rfl) rfl rfl rfl no_guard e1) ?_
      simp only [Act.put, List.setIfInBounds_toArray, List.set_cons_zero, List.set_cons_succ]
      refine mv_yield (i := 20) (d := 58) (.bool true) rfl rfl (by kernel_rfl) (by kernel_rfl) (by kernel_rfl) hS (y_run (by rfl) fun _ => by rfl) ?_
      simp only [Act.put, List.setIfInBounds_toArray, List.set_cons_zero, List.set_cons_succ]
      refine mv_yield (i := 21) (d := 4) (.bool true) rfl rfl (by kernel_rfl) (by kernel_rfl) (by kernel_rfl) hS (y_run (by rfl) fun _ => by rfl) ?_
      simp only [Act.put, List.setIfInBounds_toArray, List.set_cons_zero, List.set_cons_succ]
      refine mv_done (by kernel_rfl) ?_
      have HB := Lib.hid (below_trans B4.out hS B4.out.size)
      clear e1 hS c15
      go_wp2
      go_ret
      exact ⟨rfl, HB.out⟩
end Go.Proofs.Ytppjapbbofepmaa.Tl
