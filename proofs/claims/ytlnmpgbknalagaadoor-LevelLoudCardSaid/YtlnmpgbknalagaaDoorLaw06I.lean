/- The statements' walks of layer 6, ninth part: LevelLoud. -/
import Derived.Test.YtlnmpgbknalagaaDoorLvG
import Derived.Test.YtlnmpgbknalagaaDoorLvMath3
import Derived.Test.YtlnmpgbknalagaaDoorRowPar
import Derived.Test.YtlnmpgbknalagaaDoorRowMvQ
namespace Go.Proofs.YtlnmpgbknalagaaDoor.Lv
open Go.RowKit Go.Proofs.YtlnmpgbknalagaaDoor.Row

theorem i64_bd {l : Int} (h : (Lit.int .i64 l).wf = true) : -9223372036854775808 ≤ l ∧ l ≤ 9223372036854775807 := by
  simpa [Lit.wf, IntKind.min, IntKind.max, IntKind.bits, IntKind.signed] using h
theorem enter_levels (args : Array Value) (w : World) : (callFunc 13 args).run Tryd.prog w = .ok (.enter 13 args) w := run_enter Tryd.func13 (by kernel_rfl) rfl args w
theorem levels_row (T : Array Value) (f : Nat → Int) (w : World) (hT : IsRow 16 f T) (hTab : Tab w) :
    Calls Tryd.prog 13 #[.agg T] w fun e w' => e = .returned (.agg (rowL 4 (lvB f) 4)) ∧ Below w.heap.size w w' :=
  (levels_any T f w hT hTab).mono fun _ _ ⟨U, he, hU, hb⟩ => ⟨by rw [he, hU.at], hb⟩

theorem built_at : ∃ E, IsRow 5 (fun i => (fs i : Int)) E ∧ ∀ a : Act, Tryd.prog.built 32 ((#[(0, .const (.int .i64 0)), (1, .const (.int .i64 2)), (2, .const (.int .i64 4)), (3, .const (.int .i64 8)), (4, .const (.int .i64 16))] : Array (Nat × Operand)).map fun (i, x) => (i, a.eval x)).toList = some E := by
  refine ⟨#[.int .i64 0, .int .i64 2, .int .i64 4, .int .i64 8, .int .i64 16], ⟨rfl, by kernel_rfl, fun k hk => ?_⟩, fun a => by kernel_rfl⟩
  match k, hk with
  | 0, _ | 1, _ | 2, _ | 3, _ | 4, _ => rfl
  | n + 5, h => omega

/-- What holds while the three frames are filled in. -/
def LdS (w : World) (T : Array Value) (f : Nat → Int) (bx k : Nat) (w' : World) : Prop :=
  Below w.heap.size w w' ∧ w.heap.size < bx ∧ At w' w.heap.size T 22 ∧ At w' bx (rowL 16 (mdS f) k) 25 ∧ At w' (bx + 1) (rowL 16 (ngS f) k) 25 ∧ At w' (bx + 1 + 1) (rowL 16 (dbS f) k) 25
theorem LdS.put {w w' : World} {T : Array Value} {f : Nat → Int} {bx k : Nat} (h : LdS w T f bx k w') (hk : k < 16) :
    LdS w T f bx (k + 1) (((w'.setCell ⟨bx, k, none⟩ (.int .i64 (mdS f k))).setCell ⟨bx + 1, k, none⟩ (.int .i64 (ngS f k))).setCell ⟨bx + 1 + 1, k, none⟩ (.int .i64 (dbS f k))) := by
  obtain ⟨h1, h2, h3, h4, h5, h6⟩ := h
  refine ⟨((h1.setCell (by dsimp only; omega) _).setCell (by dsimp only; omega) _).setCell (by dsimp only; omega) _, h2, ((h3.setCell_other (by dsimp only; omega)).setCell_other (by dsimp only; omega)).setCell_other (by dsimp only; omega), ?_, ?_, ?_⟩
  · exact ((h4.put hk).setCell_other (by dsimp only; omega)).setCell_other (by dsimp only; omega)
  · exact ((h5.setCell_other (by dsimp only; omega)).put hk).setCell_other (by dsimp only; omega)
  · exact ((h6.setCell_other (by dsimp only; omega)).setCell_other (by dsimp only; omega)).put hk

/-- What stands while the levels are compared. -/
def LcS (w : World) (X LA LB LC E : Array Value) (bx ba bb bc be : Nat) (w' : World) : Prop :=
  Below w.heap.size w w' ∧ At w' bx X 25 ∧ At w' ba LA 30 ∧ At w' bb LB 30 ∧ At w' bc LC 30 ∧ At w' be E 32
theorem LcS.drew {w w1 : World} {X LA LB LC E : Array Value} {bx ba bb bc be : Nat} (h : LcS w X LA LB LC E bx ba bb bc be w1) : LcS w X LA LB LC E bx ba bb bc be w1.drew := ⟨h.1.drew, h.2⟩

set_option maxRecDepth 100000 in
set_option maxHeartbeats 2000000 in
theorem levelLoud_walk (T : Array Value) (f : Nat → Int) (hT : IsRow 16 f T) (hf : ∀ i, i < 16 → -9223372036854775808 ≤ f i ∧ f i ≤ 9223372036854775807) (w : World) (hTab : Tab w) :
    Calls Tryd.prog 4 #[.agg T] w fun e w' => e = .returned (.bool true) ∧ Below w.heap.size w w' := by
  obtain ⟨Z, hZ, hZ0, hz, hi⟩ := zero_block
  obtain ⟨Z4, hZ4, _, hz4, hi4⟩ := zero_4
  obtain ⟨Z5, hZ5, _, hz5, hi5⟩ := zero_row (t := 32) (m := 5) (by kernel_rfl)
  obtain ⟨E, hE, bE⟩ := built_at
  have HT := Lib.hid hT
  have HF := Lib.hid hf
  have HZ := Lib.hid hZ
  have ZE := Lib.hid hZ0
  have HI := Lib.hid hi
  have HZ4 := Lib.hid hZ4
  have HI4 := Lib.hid hi4
  have HZ5 := Lib.hid hZ5
  have HI5 := Lib.hid hi5
  have HE := Lib.hid hE
  have BE := Lib.hid bE
  have A0 := Lib.hid (At.new w T 22)
  have B0 := Lib.hid ((Below.refl w.heap.size w).alloc (Nat.le_refl _) (.cells T 22))
  have HTab := Lib.hid hTab
  have HTab0 := Lib.hid (hTab.below B0.out hTab.lt)
  clear hT hf hZ hi hZ0 hZ4 hi4 hZ5 hi5 hE bE hTab
  go_enter Tryd.func4, Tryd.ntmps4
  go_wp2_with fail
  refine (awake_yes _ HTab0.out).mono ?_
  rintro e w1 ⟨rfl, hw1⟩
  have A1 := Lib.hid (A0.out.below hw1 A0.out.lt)
  have B1 := Lib.hid (below_trans B0.out hw1 B0.out.size)
  clear A0 B0 hw1 HTab0
  go_wp2
  have hs0 : LdS w T f w1.heap.size 0 (((w1.alloc (.cells Z 25)).alloc (.cells Z 25)).alloc (.cells Z 25)) := by
    have hsz := B1.out.size
    have n1 := At.new (w1.alloc (.cells Z 25)) Z 25
    have n2 := At.new ((w1.alloc (.cells Z 25)).alloc (.cells Z 25)) Z 25
    rw [World.size_alloc] at n1
    rw [World.size_alloc, World.size_alloc] at n2
    exact ⟨((B1.out.alloc hsz _).alloc (by simp; omega) _).alloc (by simp; omega) _, A1.out.lt, ((A1.out.alloc _).alloc _).alloc _, by rw [ZE.out]; exact ((At.new _ _ _).alloc _).alloc _, by rw [ZE.out]; exact n1.alloc _, by rw [ZE.out]; exact n2⟩
  have HS0 := Lib.hid hs0
  clear hs0
  revert HS0
  generalize ((w1.alloc (.cells Z 25)).alloc (.cells Z 25)).alloc (.cells Z 25) = W0
  generalize w1.heap.size = bx
  intro HS0
  clear A1 B1
  go_loopw [6] (fun i w' => ∃ k : Nat, k ≤ 16 ∧ i = .int .i64 k ∧ LdS w T f bx k w') (fun i _ => 16 - (intOf i).toNat)
  case atStart => exact ⟨0, Nat.zero_le _, rfl, HS0.out⟩
  case round =>
    obtain ⟨k, hk, rfl, hs⟩ := hrel
    have HS := Lib.hid hs
    clear hs HS0
    by_cases hlt : k < 16
    · have c0 := HT.out.cell HS.out.2.2.1 k hlt
      have c1 := rowL_cell HS.out.2.2.2.1 k hlt
      have c2 := rowL_cell HS.out.2.2.2.2.1 k hlt
      have c3 := rowL_cell HS.out.2.2.2.2.2 k hlt
      have f1 := HS.out.2.2.2.1.frozen k
      have f2 := HS.out.2.2.2.2.1.frozen k
      have f3 := HS.out.2.2.2.2.2.frozen k
      have hne : ¬ w.heap.size = bx := by have := HS.out.2.1; omega
      obtain ⟨x1, x2⟩ := HF.out k hlt
      have HP := Lib.hid (HS.out.put hlt)
      have r12 := mdS_bd f k
      have HM := Lib.hid (show mdS f k = (f k).tmod 32768 from rfl)
      have HN := Lib.hid (show ngS f k = -mdS f k from rfl)
      have HD := Lib.hid (show dbS f k = 2 * mdS f k from rfl)
      obtain ⟨x, hx⟩ : ∃ x, f k = x := ⟨_, rfl⟩
      obtain ⟨r, hr⟩ : ∃ r, mdS f k = r := ⟨_, rfl⟩
      rw [hx] at c0 x1 x2 HM
      rw [hr] at HM HN HD r12 HP
      have hxr : x.tmod 32768 = r := HM.out.symm
      obtain ⟨r1, r2⟩ := r12
      have k1 : (k : Int) < 16 := by omega
      clear hx hr
      rw [HN.out, HD.out] at HP
      clear HN HD HM
      go_wp2
      go_roundw
      case rel => exact ⟨k + 1, by omega, by go_num, HP.out⟩
      case measure => simp [intOf]; omega
    · obtain rfl : k = 16 := by omega
      obtain ⟨X, hX⟩ : ∃ A, rowL 16 (mdS f) 16 = A := ⟨_, rfl⟩
      obtain ⟨Y, hY⟩ : ∃ A, rowL 16 (ngS f) 16 = A := ⟨_, rfl⟩
      obtain ⟨W, hW⟩ : ∃ A, rowL 16 (dbS f) 16 = A := ⟨_, rfl⟩
      have RX := Lib.hid (show IsRow 16 (mdS f) X by rw [← hX]; exact isRow _ _)
      have RY := Lib.hid (show IsRow 16 (ngS f) Y by rw [← hY]; exact isRow _ _)
      have RW := Lib.hid (show IsRow 16 (dbS f) W by rw [← hW]; exact isRow _ _)
      obtain ⟨LA, hLA⟩ : ∃ A, rowL 4 (lvB (mdS f)) 4 = A := ⟨_, rfl⟩
      obtain ⟨LB, hLB⟩ : ∃ A, rowL 4 (lvB (ngS f)) 4 = A := ⟨_, rfl⟩
      obtain ⟨LC, hLC⟩ : ∃ A, rowL 4 (lvB (dbS f)) 4 = A := ⟨_, rfl⟩
      have RA := Lib.hid (show IsRow 4 (lvB (mdS f)) LA by rw [← hLA]; exact isRow _ _)
      have RB := Lib.hid (show IsRow 4 (lvB (ngS f)) LB by rw [← hLB]; exact isRow _ _)
      have RC := Lib.hid (show IsRow 4 (lvB (dbS f)) LC by rw [← hLC]; exact isRow _ _)
      have CA := Lib.hid (fun w h => levels_row X (mdS f) w RX.out h)
      have CB := Lib.hid (fun w h => levels_row Y (ngS f) w RY.out h)
      have CC := Lib.hid (fun w h => levels_row W (dbS f) w RW.out h)
      rw [hLA] at CA
      rw [hLB] at CB
      rw [hLC] at CC
      have AX := Lib.hid HS.out.2.2.2.1
      have AY := Lib.hid HS.out.2.2.2.2.1
      have AW := Lib.hid HS.out.2.2.2.2.2
      rw [hX] at AX
      rw [hY] at AY
      rw [hW] at AW
      have HTr := Lib.hid (HTab.out.below HS.out.1 HTab.out.lt)
      have HB := Lib.hid HS.out.1
      clear hX hY hW hLA hLB hLC HS hlt hk
      go_wp2_with fail
      refine mv_start fun hS => ?_
      refine mv_yield (i := 0) (d := 38) (.agg X) rfl rfl (by kernel_rfl) (by kernel_rfl) (by kernel_rfl) hS (y_load (by rfl) rfl rfl AX.out Tryd.underlying25 (HI.out _ RX.out.1)) ?_
      simp only [Act.put, List.setIfInBounds_toArray, List.set_cons_zero, List.set_cons_succ]
      refine mv_yield (i := 2) (d := 40) (.agg Y) rfl rfl (by kernel_rfl) (by kernel_rfl) (by kernel_rfl) hS (y_load (by rfl) rfl rfl AY.out Tryd.underlying25 (HI.out _ RY.out.1)) ?_
      simp only [Act.put, List.setIfInBounds_toArray, List.set_cons_zero, List.set_cons_succ]
      refine mv_yield (i := 4) (d := 42) (.agg W) rfl rfl (by kernel_rfl) (by kernel_rfl) (by kernel_rfl) hS (y_load (by rfl) rfl rfl AW.out Tryd.underlying25 (HI.out _ RW.out.1)) ?_
      simp only [Act.put, List.setIfInBounds_toArray, List.set_cons_zero, List.set_cons_succ]
      refine par0 (fuel := 3) [1, 3, 5, 6, 7, 8] [5, 3, 1, 6, 7, 8] (fun i => decide (6 ≤ i)) (fun i => if i = 1 then .agg LA else if i = 3 then .agg LB else .agg LC) (fun _ => Z4) (fun _ => 30) #[true, true, true, true, true, true, true, true, true, false, false, false] _ rfl (by decide) (by decide) (by decide) rfl (by kernel_rfl) (by kernel_rfl) (by kernel_rfl) (by kernel_rfl) (by kernel_rfl) (by kernel_rfl) (by kernel_rfl) hS ?_ ?_
      · intro i hi
        simp only [List.mem_cons, List.not_mem_nil, or_false] at hi
        rcases hi with rfl | rfl | rfl | rfl | rfl | rfl
        · exact ⟨_, rfl, fun w hSw => st_call (isA := fun i => decide (6 ≤ i)) (V := fun i => if i = 1 then .agg LA else if i = 3 then .agg LB else .agg LC) (Zc := fun _ => Z4) (ty := fun _ => 30) (i := 1) #[.agg X] rfl rfl rfl enter_levels (by kernel_rfl) (CA.out w (HTr.out.next hSw))⟩
        · exact ⟨_, rfl, fun w hSw => st_call (isA := fun i => decide (6 ≤ i)) (V := fun i => if i = 1 then .agg LA else if i = 3 then .agg LB else .agg LC) (Zc := fun _ => Z4) (ty := fun _ => 30) (i := 3) #[.agg Y] rfl rfl rfl enter_levels (by kernel_rfl) (CB.out w (HTr.out.next hSw))⟩
        · exact ⟨_, rfl, fun w hSw => st_call (isA := fun i => decide (6 ≤ i)) (V := fun i => if i = 1 then .agg LA else if i = 3 then .agg LB else .agg LC) (Zc := fun _ => Z4) (ty := fun _ => 30) (i := 5) #[.agg W] rfl rfl rfl enter_levels (by kernel_rfl) (CC.out w (HTr.out.next hSw))⟩
        · exact ⟨_, rfl, fun w _ => st_alloc (isA := fun i => decide (6 ≤ i)) (V := fun i => if i = 1 then .agg LA else if i = 3 then .agg LB else .agg LC) (Zc := fun _ => Z4) (ty := fun _ => 30) (i := 6) rfl rfl rfl rfl hz4⟩
        · exact ⟨_, rfl, fun w _ => st_alloc (isA := fun i => decide (6 ≤ i)) (V := fun i => if i = 1 then .agg LA else if i = 3 then .agg LB else .agg LC) (Zc := fun _ => Z4) (ty := fun _ => 30) (i := 7) rfl rfl rfl rfl hz4⟩
        · exact ⟨_, rfl, fun w _ => st_alloc (isA := fun i => decide (6 ≤ i)) (V := fun i => if i = 1 then .agg LA else if i = 3 then .agg LB else .agg LC) (Zc := fun _ => Z4) (ty := fun _ => 30) (i := 8) rfl rfl rfl rfl hz4⟩
      clear hS
      intro val w' hS hY hV
      have v1 : val 1 = .agg LA := (hY 1 (by simp)).1 rfl
      have v3 : val 3 = .agg LB := (hY 3 (by simp)).1 rfl
      have v5 : val 5 = .agg LC := (hY 5 (by simp)).1 rfl
      obtain ⟨b6, e6, a6, g6⟩ : ∃ b, val 6 = .pointer (some ⟨b, 0, none⟩) ∧ At w' b Z4 30 ∧ wr.heap.size ≤ b := (hY 6 (by simp)).2 rfl
      obtain ⟨b7, e7, a7, g7⟩ : ∃ b, val 7 = .pointer (some ⟨b, 0, none⟩) ∧ At w' b Z4 30 ∧ wr.heap.size ≤ b := (hY 7 (by simp)).2 rfl
      obtain ⟨b8, e8, a8, g8⟩ : ∃ b, val 8 = .pointer (some ⟨b, 0, none⟩) ∧ At w' b Z4 30 ∧ wr.heap.size ≤ b := (hY 8 (by simp)).2 rfl
      have n6_7 : b6 ≠ b7 := fun e => hV 6 (by simp) 7 (by simp) (by decide) rfl rfl (by rw [e6, e7, e])
      have n6_8 : b6 ≠ b8 := fun e => hV 6 (by simp) 8 (by simp) (by decide) rfl rfl (by rw [e6, e8, e])
      have n7_6 : b7 ≠ b6 := fun e => hV 7 (by simp) 6 (by simp) (by decide) rfl rfl (by rw [e7, e6, e])
      have n7_8 : b7 ≠ b8 := fun e => hV 7 (by simp) 8 (by simp) (by decide) rfl rfl (by rw [e7, e8, e])
      have n8_6 : b8 ≠ b6 := fun e => hV 8 (by simp) 6 (by simp) (by decide) rfl rfl (by rw [e8, e6, e])
      have n8_7 : b8 ≠ b7 := fun e => hV 8 (by simp) 7 (by simp) (by decide) rfl rfl (by rw [e8, e7, e])
      show wpAnyH _ _ _ _ _ _ _ (Act.put (Act.put (Act.put (Act.put (Act.put (Act.put _ (some 39) (val 1)) (some 41) (val 3)) (some 43) (val 5)) (some 7) (val 6)) (some 8) (val 7)) (some 9) (val 8)) _
      rw [v1, v3, v5, e6, e7, e8]
      simp only [Act.put, List.setIfInBounds_toArray, List.set_cons_zero, List.set_cons_succ]
      clear hY hV v1 v3 v5 e6 e7 e8
      refine mv_store (i := 9) b6 LA _ rfl rfl (by kernel_rfl) (by rfl) rfl rfl rfl a6 (by rw [HZ4.out.1, RA.out.1]) RA.out.2.1 (HI4.out _ RA.out.1) g6 hS (fun hS => ?_)
      refine mv_store (i := 10) b7 LB _ rfl rfl (by kernel_rfl) (by rfl) rfl rfl rfl (a7.setRow_other n7_6) (by rw [HZ4.out.1, RB.out.1]) RB.out.2.1 (HI4.out _ RB.out.1) g7 hS (fun hS => ?_)
      refine mv_store (i := 11) b8 LC _ rfl rfl (by kernel_rfl) (by rfl) rfl rfl rfl ((a8.setRow_other n8_6).setRow_other n8_7) (by rw [HZ4.out.1, RC.out.1]) RC.out.2.1 (HI4.out _ RC.out.1) g8 hS (fun hS => ?_)
      refine mv_done (by kernel_rfl) ?_
      have P6 := Lib.hid (((a6.setRow (C := LA)).setRow_other (C := LB) n6_7).setRow_other (C := LC) n6_8)
      have P7 := Lib.hid (((a7.setRow_other (C := LA) n7_6).setRow (C := LB)).setRow_other (C := LC) n7_8)
      have P8 := Lib.hid (((a8.setRow_other (C := LA) n8_6).setRow_other (C := LB) n8_7).setRow (C := LC))
      have B3 := Lib.hid (below_trans HB.out hS HB.out.size)
      have PX := Lib.hid (AX.out.below hS AX.out.lt)
      revert P6 P7 P8 B3 PX
      generalize (((w'.setRow b6 LA).setRow b7 LB).setRow b8 LC) = w3
      intro P6 P7 P8 B3 PX
      clear hS a6 a7 a8 g6 g7 g8 AX AY AW CA CB CC HTr HB
      go_wp2_with (first
        | (refine wpList_build_wanted (by rfl) 32 _ rfl E (BE.out _) ?_)
        | (refine wpList_store_row rfl 32 _ _ rfl w3.heap.size E rfl rfl _ _ (heap_alloc_new _ _) (HI5.out _ HE.out.1) (by rw [HE.out.1, HZ5.out.1]) HE.out.2.1 ?_; rw [World.setRow_alloc_new]))
      have HS0 := Lib.hid (show LcS w X LA LB LC E bx b6 b7 b8 w3.heap.size (w3.alloc (.cells E 32)) from ⟨B3.out.alloc B3.out.size _, PX.out.alloc _, P6.out.alloc _, P7.out.alloc _, P8.out.alloc _, At.new _ _ _⟩)
      revert HS0
      generalize w3.alloc (.cells E 32) = W4
      generalize w3.heap.size = be
      intro HS0
      clear P6 P7 P8 B3 PX
      go_loopw [11] (fun i w' => ∃ k : Nat, k ≤ 4 ∧ i = .int .i64 k ∧ LcS w X LA LB LC E bx b6 b7 b8 be w') (fun i _ => 4 - (intOf i).toNat)
      case atStart => exact ⟨0, Nat.zero_le _, rfl, HS0.out⟩
      case round =>
        obtain ⟨k, hk, rfl, hs⟩ := hrel
        have HS := Lib.hid hs
        clear hs HS0
        by_cases hlt : k < 4
        · have hb := fs_bd k hlt
          have hsz := fs_size k hlt
          have ce0 := HE.out.cell HS.out.2.2.2.2.2 k (by omega)
          have ce1 := HE.out.cell HS.out.2.2.2.2.2 (k + 1) (by omega)
          have ca := RA.out.cell HS.out.2.2.1 k hlt
          have cb := RB.out.cell HS.out.2.2.2.1 k hlt
          have cc := RC.out.cell HS.out.2.2.2.2.1 k hlt
          rw [lvB_neg] at cb
          have HZB := Lib.hid (lvB_zero f k hsz)
          have HTW := Lib.hid (lvB_twice f k hsz)
          obtain ⟨p, hp⟩ : ∃ p, fs k = p := ⟨_, rfl⟩
          obtain ⟨q, hq⟩ : ∃ q, fs (k + 1) = q := ⟨_, rfl⟩
          obtain ⟨m, hm⟩ : ∃ m, q - p = m := ⟨_, rfl⟩
          simp only [hp] at ce0
          simp only [hq] at ce1
          rw [hp, hq, hm] at HZB HTW
          rw [hp, hq] at hb
          have HQ := Lib.hid (show q = p + m by omega)
          have hpm : p + m ≤ 16 := by omega
          have k0 : (0 : Int) ≤ (k : Int) := by omega
          have k1 : (k : Int) < 4 := by omega
          have k2 : (k : Int) + 1 < 5 := by omega
          have ek : ((k + 1 : Nat) : Int) = (k : Int) + 1 := by omega
          rw [HQ.out] at ce1
          clear hp hq hm hb hsz HQ ek
          obtain ⟨z, hz'⟩ : ∃ z, lvB (mdS f) k = z := ⟨_, rfl⟩
          obtain ⟨v, hv⟩ : ∃ v, lvB (dbS f) k = v := ⟨_, rfl⟩
          rw [hz'] at ca cb HZB HTW
          rw [hv] at cc HTW
          have HZB2 := Lib.hid HZB.out
          have HTW2 := Lib.hid HTW.out
          have HCA := Lib.hid ca
          have HCB := Lib.hid cb
          have HCC := Lib.hid cc
          clear hz' hv HZB HTW ca cb cc q
          go_wp2
          go_loop [12, 13] (fun s i => ∃ j : Nat, j ≤ m ∧ i = .int .i64 ((p + j : Nat) : Int) ∧ s = .bool (zB (mdS f) p j)) (fun _ i => 16 - (intOf i).toNat)
          case atStart => exact ⟨0, Nat.zero_le _, rfl, rfl⟩
          case round =>
            obtain ⟨j, hj, rfl, rfl⟩ := hrel
            obtain ⟨u, hu⟩ : ∃ u, p + j = u := ⟨_, rfl⟩
            by_cases hjm : j < m
            · have cx := RX.out.cell HS.out.2.1 u (by omega)
              have HN := Lib.hid (show zB (mdS f) p (j + 1) = (zB (mdS f) p j && (mdS f u == 0)) by rw [← hu]; rfl)
              obtain ⟨x, hx⟩ : ∃ x, mdS f u = x := ⟨_, rfl⟩
              rw [hx] at cx HN
              have u1 : u < p + m := by omega
              have u2 : u < 16 := by omega
              have HU := Lib.hid hu
              rw [hu]
              obtain ⟨b, hb⟩ : ∃ b, zB (mdS f) p j = b := ⟨_, rfl⟩
              rw [hb] at HN
              rw [hb]
              have HU1 := Lib.hid (show u + 1 = p + (j + 1) by omega)
              have HV := Lib.hid (show 16 - (u + 1) < 16 - u by omega)
              clear hu hx hb
              cases b with
              | false =>
                go_wp2
                go_round
                case rel => exact ⟨j + 1, by omega, by rw [← HU1.out]; go_num, by rw [HN.out]; rfl⟩
                case measure => simp [intOf]; omega
              | true =>
                by_cases hx0 : x = 0
                · have hx1 : (x == 0) = true := by rw [hx0]; rfl
                  clear hx0
                  go_wp2
                  go_round
                  case rel => exact ⟨j + 1, by omega, by rw [← HU1.out]; go_num, by rw [HN.out, hx1]; rfl⟩
                  case measure => simp [intOf]; omega
                · have hx1 : (x == 0) = false := by rw [beq_eq_false_iff_ne]; exact hx0
                  clear hx0
                  go_wp2
                  go_round
                  case rel => exact ⟨j + 1, by omega, by rw [← HU1.out]; go_num, by rw [HN.out, hx1]; rfl⟩
                  case measure => simp [intOf]; omega
            · obtain rfl : j = m := by omega
              clear hu u
              obtain ⟨b, hb⟩ : ∃ b, zB (mdS f) p j = b := ⟨_, rfl⟩
              rw [hb] at HZB2 HTW2
              rw [hb]
              clear hb
              cases b with
              | true =>
                obtain rfl : z = 0 := HZB2.out.2 rfl
                go_wp2_with fail
                refine mv_start fun hS => ?_
                refine mv_yield (i := 0) (d := 67) (.int .i64 ((k : Int))) rfl rfl (by kernel_rfl) (by kernel_rfl) (by kernel_rfl) hS (y_run (by rfl) fun _ => by rfl) ?_
                simp only [Act.put, List.setIfInBounds_toArray, List.set_cons_zero, List.set_cons_succ]
                refine mv_yield (i := 1) (d := 68) (.pointer (some ⟨b6, k, none⟩)) rfl rfl (by kernel_rfl) (by kernel_rfl) (by kernel_rfl) hS (y_at (m := 4) (k := k) (by rfl) rfl rfl rfl Tryd.underlying30 rfl hlt) ?_
                simp only [Act.put, List.setIfInBounds_toArray, List.set_cons_zero, List.set_cons_succ]
                refine mv_yield (i := 2) (d := 69) (.int .i64 0) rfl rfl (by kernel_rfl) (by kernel_rfl) (by kernel_rfl) hS (y_cell (by rfl) rfl rfl HCA.out) ?_
                simp only [Act.put, List.setIfInBounds_toArray, List.set_cons_zero, List.set_cons_succ]
                refine mv_yield (i := 3) (d := 70) (.bool true) rfl rfl (by kernel_rfl) (by kernel_rfl) (by kernel_rfl) hS (y_eqi2 (by rfl) rfl rfl rfl (by rfl)) ?_
                simp only [Act.put, List.setIfInBounds_toArray, List.set_cons_zero, List.set_cons_succ]
                refine mv_yield (i := 4) (d := 71) (.bool true) rfl rfl (by kernel_rfl) (by kernel_rfl) (by kernel_rfl) hS (y_run (by rfl) fun _ => by rfl) ?_
                simp only [Act.put, List.setIfInBounds_toArray, List.set_cons_zero, List.set_cons_succ]
                refine mv_yield (i := 5) (d := 72) (.bool false) rfl rfl (by kernel_rfl) (by kernel_rfl) (by kernel_rfl) hS (y_neb (by rfl) rfl rfl rfl rfl) ?_
                simp only [Act.put, List.setIfInBounds_toArray, List.set_cons_zero, List.set_cons_succ]
                refine mv_yield (i := 6) (d := 73) (.bool false) rfl rfl (by kernel_rfl) (by kernel_rfl) (by kernel_rfl) hS (y_run (by rfl) fun _ => by rfl) ?_
                simp only [Act.put, List.setIfInBounds_toArray, List.set_cons_zero, List.set_cons_succ]
                refine mv_yield (i := 7) (d := 74) (.int .i64 ((k : Int))) rfl rfl (by kernel_rfl) (by kernel_rfl) (by kernel_rfl) hS (y_run (by rfl) fun _ => by rfl) ?_
                simp only [Act.put, List.setIfInBounds_toArray, List.set_cons_zero, List.set_cons_succ]
                refine mv_yield (i := 8) (d := 75) (.pointer (some ⟨b6, k, none⟩)) rfl rfl (by kernel_rfl) (by kernel_rfl) (by kernel_rfl) hS (y_at (m := 4) (k := k) (by rfl) rfl rfl rfl Tryd.underlying30 rfl hlt) ?_
                simp only [Act.put, List.setIfInBounds_toArray, List.set_cons_zero, List.set_cons_succ]
                refine mv_yield (i := 9) (d := 76) (.int .i64 0) rfl rfl (by kernel_rfl) (by kernel_rfl) (by kernel_rfl) hS (y_cell (by rfl) rfl rfl HCA.out) ?_
                simp only [Act.put, List.setIfInBounds_toArray, List.set_cons_zero, List.set_cons_succ]
                refine mv_yield (i := 10) (d := 77) (.int .i64 ((k : Int))) rfl rfl (by kernel_rfl) (by kernel_rfl) (by kernel_rfl) hS (y_run (by rfl) fun _ => by rfl) ?_
                simp only [Act.put, List.setIfInBounds_toArray, List.set_cons_zero, List.set_cons_succ]
                refine mv_yield (i := 11) (d := 78) (.pointer (some ⟨b7, k, none⟩)) rfl rfl (by kernel_rfl) (by kernel_rfl) (by kernel_rfl) hS (y_at (m := 4) (k := k) (by rfl) rfl rfl rfl Tryd.underlying30 rfl hlt) ?_
                simp only [Act.put, List.setIfInBounds_toArray, List.set_cons_zero, List.set_cons_succ]
                refine mv_yield (i := 12) (d := 79) (.int .i64 0) rfl rfl (by kernel_rfl) (by kernel_rfl) (by kernel_rfl) hS (y_cell (by rfl) rfl rfl HCB.out) ?_
                simp only [Act.put, List.setIfInBounds_toArray, List.set_cons_zero, List.set_cons_succ]
                refine mv_yield (i := 13) (d := 80) (.bool false) rfl rfl (by kernel_rfl) (by kernel_rfl) (by kernel_rfl) hS (y_nei (by rfl) rfl rfl rfl (by rfl)) ?_
                simp only [Act.put, List.setIfInBounds_toArray, List.set_cons_zero, List.set_cons_succ]
                refine mv_yield (i := 14) (d := 81) (.bool false) rfl rfl (by kernel_rfl) (by kernel_rfl) (by kernel_rfl) hS (y_run (by rfl) fun _ => by rfl) ?_
                simp only [Act.put, List.setIfInBounds_toArray, List.set_cons_zero, List.set_cons_succ]
                refine mv_yield (i := 15) (d := 82) (.bool false) rfl rfl (by kernel_rfl) (by kernel_rfl) (by kernel_rfl) hS (y_run (by rfl) fun _ => by rfl) ?_
                simp only [Act.put, List.setIfInBounds_toArray, List.set_cons_zero, List.set_cons_succ]
                refine mv_yield (i := 16) (d := 83) (.bool true) rfl rfl (by kernel_rfl) (by kernel_rfl) (by kernel_rfl) hS (y_run (by rfl) fun _ => by rfl) ?_
                simp only [Act.put, List.setIfInBounds_toArray, List.set_cons_zero, List.set_cons_succ]
                refine mv_yield (i := 17) (d := 84) (.bool false) rfl rfl (by kernel_rfl) (by kernel_rfl) (by kernel_rfl) hS (y_not (b := true) (by rfl) rfl rfl) ?_
                simp only [Act.put, List.setIfInBounds_toArray, List.set_cons_zero, List.set_cons_succ]
                refine mv_yield (i := 18) (d := 85) (.bool false) rfl rfl (by kernel_rfl) (by kernel_rfl) (by kernel_rfl) hS (y_run (by rfl) fun _ => by rfl) ?_
                simp only [Act.put, List.setIfInBounds_toArray, List.set_cons_zero, List.set_cons_succ]
                refine mv_yield (i := 19) (d := 86) undef rfl rfl (by kernel_rfl) (by kernel_rfl) (by kernel_rfl) hS (y_skip (by rfl)) ?_
                simp only [Act.put, List.setIfInBounds_toArray, List.set_cons_zero, List.set_cons_succ]
                refine mv_yield (i := 20) (d := 87) undef rfl rfl (by kernel_rfl) (by kernel_rfl) (by kernel_rfl) hS (y_skip (by rfl)) ?_
                simp only [Act.put, List.setIfInBounds_toArray, List.set_cons_zero, List.set_cons_succ]
                refine mv_yield (i := 21) (d := 88) undef rfl rfl (by kernel_rfl) (by kernel_rfl) (by kernel_rfl) hS (y_skip (by rfl)) ?_
                simp only [Act.put, List.setIfInBounds_toArray, List.set_cons_zero, List.set_cons_succ]
                refine mv_yield (i := 22) (d := 89) undef rfl rfl (by kernel_rfl) (by kernel_rfl) (by kernel_rfl) hS (y_skip (by rfl)) ?_
                simp only [Act.put, List.setIfInBounds_toArray, List.set_cons_zero, List.set_cons_succ]
                refine mv_yield (i := 23) (d := 90) undef rfl rfl (by kernel_rfl) (by kernel_rfl) (by kernel_rfl) hS (y_skip (by rfl)) ?_
                simp only [Act.put, List.setIfInBounds_toArray, List.set_cons_zero, List.set_cons_succ]
                refine mv_yield (i := 24) (d := 91) undef rfl rfl (by kernel_rfl) (by kernel_rfl) (by kernel_rfl) hS (y_skip (by rfl)) ?_
                simp only [Act.put, List.setIfInBounds_toArray, List.set_cons_zero, List.set_cons_succ]
                refine mv_yield (i := 25) (d := 92) undef rfl rfl (by kernel_rfl) (by kernel_rfl) (by kernel_rfl) hS (y_skip (by rfl)) ?_
                simp only [Act.put, List.setIfInBounds_toArray, List.set_cons_zero, List.set_cons_succ]
                refine mv_yield (i := 26) (d := 93) undef rfl rfl (by kernel_rfl) (by kernel_rfl) (by kernel_rfl) hS (y_skip (by rfl)) ?_
                simp only [Act.put, List.setIfInBounds_toArray, List.set_cons_zero, List.set_cons_succ]
                refine mv_yield (i := 27) (d := 94) (.bool false) rfl rfl (by kernel_rfl) (by kernel_rfl) (by kernel_rfl) hS (y_run (by rfl) fun _ => by rfl) ?_
                simp only [Act.put, List.setIfInBounds_toArray, List.set_cons_zero, List.set_cons_succ]
                refine mv_yield (i := 28) (d := 95) (.bool false) rfl rfl (by kernel_rfl) (by kernel_rfl) (by kernel_rfl) hS (y_run (by rfl) fun _ => by rfl) ?_
                simp only [Act.put, List.setIfInBounds_toArray, List.set_cons_zero, List.set_cons_succ]
                refine mv_done (by kernel_rfl) ?_
                go_wp2
                go_roundw
                case rel => exact ⟨k + 1, by omega, by go_num, HS.out.drew⟩
                case measure => simp [intOf]; omega
              | false =>
                obtain ⟨hv, hz0, hz1⟩ := HTW2.out rfl
                have HV := Lib.hid hv
                have hzb : (z == 0) = false := by rw [beq_eq_false_iff_ne]; omega
                have HZ0 := Lib.hid hzb
                have HA1 := Lib.hid (show IntKind.i64.wrap (z + 1) = z + 1 from IntWalk.i64_in _ (by omega))
                have HC1 := Lib.hid (show wr.cell? ⟨b8, k, none⟩ = some (.int .i64 (z + 1)) by rw [← HV.out]; exact HCC.out)
                clear hv hzb
                go_wp2_with fail
                refine mv_start fun hS => ?_
                refine mv_yield (i := 0) (d := 67) (.int .i64 ((k : Int))) rfl rfl (by kernel_rfl) (by kernel_rfl) (by kernel_rfl) hS (y_run (by rfl) fun _ => by rfl) ?_
                simp only [Act.put, List.setIfInBounds_toArray, List.set_cons_zero, List.set_cons_succ]
                refine mv_yield (i := 1) (d := 68) (.pointer (some ⟨b6, k, none⟩)) rfl rfl (by kernel_rfl) (by kernel_rfl) (by kernel_rfl) hS (y_at (m := 4) (k := k) (by rfl) rfl rfl rfl Tryd.underlying30 rfl hlt) ?_
                simp only [Act.put, List.setIfInBounds_toArray, List.set_cons_zero, List.set_cons_succ]
                refine mv_yield (i := 2) (d := 69) (.int .i64 z) rfl rfl (by kernel_rfl) (by kernel_rfl) (by kernel_rfl) hS (y_cell (by rfl) rfl rfl HCA.out) ?_
                simp only [Act.put, List.setIfInBounds_toArray, List.set_cons_zero, List.set_cons_succ]
                refine mv_yield (i := 3) (d := 70) (.bool false) rfl rfl (by kernel_rfl) (by kernel_rfl) (by kernel_rfl) hS (y_eqi2 (by rfl) rfl rfl rfl HZ0.out) ?_
                simp only [Act.put, List.setIfInBounds_toArray, List.set_cons_zero, List.set_cons_succ]
                refine mv_yield (i := 4) (d := 71) (.bool false) rfl rfl (by kernel_rfl) (by kernel_rfl) (by kernel_rfl) hS (y_run (by rfl) fun _ => by rfl) ?_
                simp only [Act.put, List.setIfInBounds_toArray, List.set_cons_zero, List.set_cons_succ]
                refine mv_yield (i := 5) (d := 72) (.bool false) rfl rfl (by kernel_rfl) (by kernel_rfl) (by kernel_rfl) hS (y_neb (by rfl) rfl rfl rfl rfl) ?_
                simp only [Act.put, List.setIfInBounds_toArray, List.set_cons_zero, List.set_cons_succ]
                refine mv_yield (i := 6) (d := 73) (.bool false) rfl rfl (by kernel_rfl) (by kernel_rfl) (by kernel_rfl) hS (y_run (by rfl) fun _ => by rfl) ?_
                simp only [Act.put, List.setIfInBounds_toArray, List.set_cons_zero, List.set_cons_succ]
                refine mv_yield (i := 7) (d := 74) (.int .i64 ((k : Int))) rfl rfl (by kernel_rfl) (by kernel_rfl) (by kernel_rfl) hS (y_run (by rfl) fun _ => by rfl) ?_
                simp only [Act.put, List.setIfInBounds_toArray, List.set_cons_zero, List.set_cons_succ]
                refine mv_yield (i := 8) (d := 75) (.pointer (some ⟨b6, k, none⟩)) rfl rfl (by kernel_rfl) (by kernel_rfl) (by kernel_rfl) hS (y_at (m := 4) (k := k) (by rfl) rfl rfl rfl Tryd.underlying30 rfl hlt) ?_
                simp only [Act.put, List.setIfInBounds_toArray, List.set_cons_zero, List.set_cons_succ]
                refine mv_yield (i := 9) (d := 76) (.int .i64 z) rfl rfl (by kernel_rfl) (by kernel_rfl) (by kernel_rfl) hS (y_cell (by rfl) rfl rfl HCA.out) ?_
                simp only [Act.put, List.setIfInBounds_toArray, List.set_cons_zero, List.set_cons_succ]
                refine mv_yield (i := 10) (d := 77) (.int .i64 ((k : Int))) rfl rfl (by kernel_rfl) (by kernel_rfl) (by kernel_rfl) hS (y_run (by rfl) fun _ => by rfl) ?_
                simp only [Act.put, List.setIfInBounds_toArray, List.set_cons_zero, List.set_cons_succ]
                refine mv_yield (i := 11) (d := 78) (.pointer (some ⟨b7, k, none⟩)) rfl rfl (by kernel_rfl) (by kernel_rfl) (by kernel_rfl) hS (y_at (m := 4) (k := k) (by rfl) rfl rfl rfl Tryd.underlying30 rfl hlt) ?_
                simp only [Act.put, List.setIfInBounds_toArray, List.set_cons_zero, List.set_cons_succ]
                refine mv_yield (i := 12) (d := 79) (.int .i64 z) rfl rfl (by kernel_rfl) (by kernel_rfl) (by kernel_rfl) hS (y_cell (by rfl) rfl rfl HCB.out) ?_
                simp only [Act.put, List.setIfInBounds_toArray, List.set_cons_zero, List.set_cons_succ]
                refine mv_yield (i := 13) (d := 80) (.bool false) rfl rfl (by kernel_rfl) (by kernel_rfl) (by kernel_rfl) hS (y_nei (by rfl) rfl rfl rfl (by simp)) ?_
                simp only [Act.put, List.setIfInBounds_toArray, List.set_cons_zero, List.set_cons_succ]
                refine mv_yield (i := 14) (d := 81) (.bool false) rfl rfl (by kernel_rfl) (by kernel_rfl) (by kernel_rfl) hS (y_run (by rfl) fun _ => by rfl) ?_
                simp only [Act.put, List.setIfInBounds_toArray, List.set_cons_zero, List.set_cons_succ]
                refine mv_yield (i := 15) (d := 82) (.bool false) rfl rfl (by kernel_rfl) (by kernel_rfl) (by kernel_rfl) hS (y_run (by rfl) fun _ => by rfl) ?_
                simp only [Act.put, List.setIfInBounds_toArray, List.set_cons_zero, List.set_cons_succ]
                refine mv_yield (i := 16) (d := 83) (.bool false) rfl rfl (by kernel_rfl) (by kernel_rfl) (by kernel_rfl) hS (y_run (by rfl) fun _ => by rfl) ?_
                simp only [Act.put, List.setIfInBounds_toArray, List.set_cons_zero, List.set_cons_succ]
                refine mv_yield (i := 17) (d := 84) (.bool true) rfl rfl (by kernel_rfl) (by kernel_rfl) (by kernel_rfl) hS (y_not (b := false) (by rfl) rfl rfl) ?_
                simp only [Act.put, List.setIfInBounds_toArray, List.set_cons_zero, List.set_cons_succ]
                refine mv_yield (i := 18) (d := 85) (.bool true) rfl rfl (by kernel_rfl) (by kernel_rfl) (by kernel_rfl) hS (y_run (by rfl) fun _ => by rfl) ?_
                simp only [Act.put, List.setIfInBounds_toArray, List.set_cons_zero, List.set_cons_succ]
                refine mv_yield (i := 19) (d := 86) (.int .i64 ((k : Int))) rfl rfl (by kernel_rfl) (by kernel_rfl) (by kernel_rfl) hS (y_run (by rfl) fun _ => by rfl) ?_
                simp only [Act.put, List.setIfInBounds_toArray, List.set_cons_zero, List.set_cons_succ]
                refine mv_yield (i := 20) (d := 87) (.pointer (some ⟨b8, k, none⟩)) rfl rfl (by kernel_rfl) (by kernel_rfl) (by kernel_rfl) hS (y_at (m := 4) (k := k) (by rfl) rfl rfl rfl Tryd.underlying30 rfl hlt) ?_
                simp only [Act.put, List.setIfInBounds_toArray, List.set_cons_zero, List.set_cons_succ]
                refine mv_yield (i := 21) (d := 88) (.int .i64 ((z + 1))) rfl rfl (by kernel_rfl) (by kernel_rfl) (by kernel_rfl) hS (y_cell (by rfl) rfl rfl HC1.out) ?_
                simp only [Act.put, List.setIfInBounds_toArray, List.set_cons_zero, List.set_cons_succ]
                refine mv_yield (i := 22) (d := 89) (.int .i64 ((k : Int))) rfl rfl (by kernel_rfl) (by kernel_rfl) (by kernel_rfl) hS (y_run (by rfl) fun _ => by rfl) ?_
                simp only [Act.put, List.setIfInBounds_toArray, List.set_cons_zero, List.set_cons_succ]
                refine mv_yield (i := 23) (d := 90) (.pointer (some ⟨b6, k, none⟩)) rfl rfl (by kernel_rfl) (by kernel_rfl) (by kernel_rfl) hS (y_at (m := 4) (k := k) (by rfl) rfl rfl rfl Tryd.underlying30 rfl hlt) ?_
                simp only [Act.put, List.setIfInBounds_toArray, List.set_cons_zero, List.set_cons_succ]
                refine mv_yield (i := 24) (d := 91) (.int .i64 z) rfl rfl (by kernel_rfl) (by kernel_rfl) (by kernel_rfl) hS (y_cell (by rfl) rfl rfl HCA.out) ?_
                simp only [Act.put, List.setIfInBounds_toArray, List.set_cons_zero, List.set_cons_succ]
                refine mv_yield (i := 25) (d := 92) (.int .i64 ((z + 1))) rfl rfl (by kernel_rfl) (by kernel_rfl) (by kernel_rfl) hS (y_add (by rfl) rfl rfl rfl HA1.out) ?_
                simp only [Act.put, List.setIfInBounds_toArray, List.set_cons_zero, List.set_cons_succ]
                refine mv_yield (i := 26) (d := 93) (.bool false) rfl rfl (by kernel_rfl) (by kernel_rfl) (by kernel_rfl) hS (y_nei (by rfl) rfl rfl rfl (by simp)) ?_
                simp only [Act.put, List.setIfInBounds_toArray, List.set_cons_zero, List.set_cons_succ]
                refine mv_yield (i := 27) (d := 94) (.bool false) rfl rfl (by kernel_rfl) (by kernel_rfl) (by kernel_rfl) hS (y_run (by rfl) fun _ => by rfl) ?_
                simp only [Act.put, List.setIfInBounds_toArray, List.set_cons_zero, List.set_cons_succ]
                refine mv_yield (i := 28) (d := 95) (.bool false) rfl rfl (by kernel_rfl) (by kernel_rfl) (by kernel_rfl) hS (y_run (by rfl) fun _ => by rfl) ?_
                simp only [Act.put, List.setIfInBounds_toArray, List.set_cons_zero, List.set_cons_succ]
                refine mv_done (by kernel_rfl) ?_
                go_wp2
                go_roundw
                case rel => exact ⟨k + 1, by omega, by go_num, HS.out.drew⟩
                case measure => simp [intOf]; omega
        · obtain rfl : k = 4 := by omega
          go_wp2
          go_ret
          exact ⟨rfl, HS.out.1⟩
end Go.Proofs.YtlnmpgbknalagaaDoor.Lv
