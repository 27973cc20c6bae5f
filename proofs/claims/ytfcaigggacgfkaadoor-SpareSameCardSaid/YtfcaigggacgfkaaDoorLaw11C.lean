/- SpareSame: the walk. -/
import Derived.Test.YtfcaigggacgfkaaDoorLaw11B
set_option maxRecDepth 100000
set_option linter.unusedVariables false
namespace Go.Proofs.YtfcaigggacgfkaaDoor.Sp
open Go.RowKit Go.Proofs.YtfcaigggacgfkaaDoor.Row

theorem enter_pulses (args : Array Value) (w : World) : (callFunc 10 args).run Tryd.prog w = .ok (.enter 10 args) w := run_enter Tryd.func10 (by kernel_rfl) rfl args w

/-- Pulses, the row that it answers named. -/
theorem pulses_row (TL R : Array Value) (L : Nat → Int) (bits : Int) (w : World) (hR : IsRow 4 L TL) (hL : okL L) (h0 : 0 ≤ bits) (h1 : bits ≤ 1048576) (hG : IsRow 4 (fun i => (given L bits i : Int)) R) (hT : Lv.Tab w) :
    Calls Tryd.prog 10 #[.agg TL, .int .i64 bits] w fun e w' => e = .returned (.agg R) ∧ Below w.heap.size w w' := by
  refine (pulses_yes TL L bits w hR hL h0 h1 hT).mono ?_
  rintro e w' ⟨⟨T, rfl, hT⟩, hb⟩
  exact ⟨by rw [hT.eq hG fun _ _ => rfl], hb⟩

/-- While levels of 0 are made 1: the first k. -/
def m1 (f : Nat → Int) (i : Nat) : Int := max (f i) 1
def ms (f : Nat → Int) (k i : Nat) : Int := if i < k then m1 f i else f i
theorem ms_at (f : Nat → Int) (k : Nat) : ms f k k = f k := by unfold ms; rw [if_neg (by omega)]
theorem ms_next (f : Nat → Int) (k i : Nat) : (if i = k then m1 f k else ms f k i) = ms f (k + 1) i := by
  unfold ms
  by_cases c : i = k
  · subst c; rw [if_pos rfl, if_pos (by omega)]
  · rw [if_neg c]
    by_cases c2 : i < k
    · rw [if_pos c2, if_pos (by omega)]
    · rw [if_neg c2, if_neg (by omega)]
/-- The greatest of the first k, and 0. -/
def tp (f : Nat → Int) : Nat → Int
  | 0 => 0
  | k + 1 => max (tp f k) (m1 f k)
theorem tp_bd {f : Nat → Int} (h : ∀ i, 0 ≤ f i ∧ f i ≤ 20) : ∀ k, 0 ≤ tp f k ∧ tp f k ≤ 20
  | 0 => by rw [tp]; omega
  | k + 1 => by have := tp_bd h k; have := h k; rw [tp]; unfold m1; omega
theorem tp_le (f : Nat → Int) : ∀ {k i : Nat}, i < k → m1 f i ≤ tp f k
  | 0, i, h => by omega
  | k + 1, i, h => by
    rw [tp]
    by_cases c : i = k
    · rw [c]; omega
    · have := tp_le f (show i < k by omega); omega
/-- While levels are made greater: the first k. -/
def mo (L : Nat → Int) (d : Int) (k i : Nat) : Int := if i < k then L i + d else L i
theorem mo_at (L : Nat → Int) (d : Int) (k : Nat) : mo L d k k = L k := by unfold mo; rw [if_neg (by omega)]
theorem mo_next (L : Nat → Int) (d : Int) (k i : Nat) : (if i = k then L k + d else mo L d k i) = mo L d (k + 1) i := by
  unfold mo
  by_cases c : i = k
  · subst c; rw [if_pos rfl, if_pos (by omega)]
  · rw [if_neg c]
    by_cases c2 : i < k
    · rw [if_pos c2, if_pos (by omega)]
    · rw [if_neg c2, if_neg (by omega)]

/-- One row of the statement's own. -/
def OnS (W : World) (bx : Nat) (X : Array Value) (w' : World) : Prop := At w' bx X 22 ∧ Below W.heap.size W w'
theorem OnS.set {W w1 : World} {bx : Nat} {X : Array Value} (h : OnS W bx X w1) (hb : W.heap.size ≤ bx) (i : Nat) (v : Value) : OnS W bx (X.setIfInBounds i v) (w1.setCell ⟨bx, i, none⟩ v) := ⟨h.1.setCell, h.2.setCell hb _⟩
theorem FtS.set {W w1 : World} {bx bk : Nat} {X K : Array Value} (h : FtS W bx bk X K w1) (hn : bx ≠ bk) (hb : W.heap.size ≤ bk) (i : Nat) (v : Value) : FtS W bx bk X (K.setIfInBounds i v) (w1.setCell ⟨bk, i, none⟩ v) :=
  ⟨h.1.setCell_other hn, h.2.1.setCell, h.2.2.setCell hb _⟩

set_option maxHeartbeats 2000000 in
theorem spareSame_nat (T : Array Value) (f : Nat → Int) (bits more : Nat) (W : World) (hR : IsRow 4 f T) (hb : bits ≤ 65535) (hm : more ≤ 255) (hT : Lv.Tab W) :
    Calls Tryd.prog 4 #[.agg T, .int .u16 bits, .int .u8 more] W fun e w' => e = .returned (.bool true) ∧ Below W.heap.size W w' := by
  obtain ⟨Z, hZ, hZ0, hz, hi⟩ := zero4
  obtain ⟨n, hn⟩ : ∃ n : Nat, (bits : Int) % 400 = n := ⟨bits % 400, by omega⟩
  have n4 : n < 400 := by omega
  obtain ⟨h, hh⟩ : ∃ h : Nat → Int, (fun i => hl (f i)) = h := ⟨_, rfl⟩
  have hbd : ∀ i, 0 ≤ h i ∧ h i ≤ 20 := fun i => by rw [← hh]; exact hl_bd _
  have HBD := Lib.hid hbd
  have HI := Lib.hid hi
  have HTB := Lib.hid hT
  have HR := Lib.hid hR
  have HZS := Lib.hid hZ.1
  have HIT := Lib.hid (hi T hR.1)
  have H0 := Lib.hid (At.new W T 22)
  have HB0 := Lib.hid ((Below.refl W.heap.size W).alloc (Nat.le_refl _) (.cells T 22))
  have HH := Lib.hid hh
  clear hZ hZ0 hi hR hT hh hbd
  go_enter Tryd.func4, Tryd.ntmps4
  go_wp2_with fail
  refine (awake_yes _ (HTB.out.next HB0.out)).mono ?_
  rintro e w1 ⟨rfl, h1⟩
  have H1 := Lib.hid (H0.out.below h1 H0.out.lt)
  have HB1 := Lib.hid (below_trans HB0.out h1 HB0.out.size)
  clear h1 H0 HB0
  go_wp2_with (refine wpList_load_row rfl 22 _ rfl W.heap.size rfl _ _ (0, 0) _ H1.out Tryd.underlying22 rfl HIT.out ?_)
  refine (held_as T f _ HR.out).mono ?_
  rintro e w2 ⟨⟨X0, rfl, hX⟩, h2⟩
  rw [HH.out] at hX
  have HX0 := Lib.hid (hX.ext (g := ms h 0) fun i _ => by unfold ms; rw [if_neg (by omega)])
  have HIX0 := Lib.hid (HI.out X0 hX.1)
  have HB2 := Lib.hid (below_trans HB1.out h2 HB1.out.size)
  clear hX h2 H1 HB1
  go_wp2_with (refine wpList_store_row rfl 22 _ _ rfl w2.heap.size X0 rfl rfl _ _ (At.new w2 Z 22) HIX0.out (by rw [HZS.out, HX0.out.1]) HX0.out.2.1 ?_)
  rw [World.setRow_alloc_new]
  have HS3 := Lib.hid (show OnS W w2.heap.size X0 (w2.alloc (.cells X0 22)) from ⟨At.new w2 X0 _, HB2.out.alloc HB2.out.size _⟩)
  have hbx0 := HB2.out.size
  obtain ⟨bx, hbx⟩ : ∃ bx, w2.heap.size = bx := ⟨_, rfl⟩
  rw [hbx] at HS3 hbx0 ⊢
  obtain ⟨w3, hw3⟩ : ∃ w3, w2.alloc (.cells X0 22) = w3 := ⟨_, rfl⟩
  rw [hw3] at HS3 ⊢
  clear hbx hw3 HB2
  go_loopw [8, 9] (fun t i w' => ∃ (b : Nat) (X : Array Value), b ≤ 4 ∧ i = .int .i64 b ∧ t = .int .i64 (tp h b) ∧ Hid (OnS W bx X w') ∧ Hid (IsRow 4 (ms h b) X)) (fun _ i _ => 4 - (intOf i).toNat)
  case atStart => exact ⟨0, X0, by omega, rfl, rfl, HS3, HX0⟩
  case round =>
    obtain ⟨b, X, hb4, rfl, rfl, HS, HX⟩ := hrel
    clear HS3 HX0 HIX0
    by_cases hlt : b < 4
    · have c0 := HX.out.cell HS.out.1 b hlt
      have f0 := HS.out.1.frozen b
      rw [ms_at] at c0
      have HN := Lib.hid (ms_next h b)
      have HTP := Lib.hid (show tp h (b + 1) = max (tp h b) (m1 h b) from rfl)
      obtain ⟨x0, x1⟩ := HBD.out b
      have HM := Lib.hid (show max (h b) 1 = m1 h b from rfl)
      obtain ⟨t0, t1⟩ := tp_bd HBD.out b
      obtain ⟨x, hx⟩ : ∃ x, h b = x := ⟨_, rfl⟩
      obtain ⟨m, hmm⟩ : ∃ m, m1 h b = m := ⟨_, rfl⟩
      obtain ⟨t, ht⟩ : ∃ t, tp h b = t := ⟨_, rfl⟩
      rw [hx] at c0 x0 x1 HM
      rw [hmm] at HM HN HTP
      rw [ht] at HTP t0 t1 ⊢
      have hmx := HM.out
      have b0 : (0 : Int) ≤ (b : Int) := by omega
      have b1 : (b : Int) < 4 := by omega
      clear hx hmm ht
      go_wp2_with fail
      go_roundw
      case rel => exact ⟨b + 1, _, by omega, by go_num, congrArg (Value.int .i64) (by rw [HTP.out]), Lib.hid (HS.out.set hbx0 _ _), Lib.hid ((HX.out.set (k := b) m hlt).ext fun i _ => HN.out i)⟩
      case measure => simp [intOf]; omega
    · obtain rfl : b = 4 := by omega
      have HX1 := Lib.hid (HX.out.ext (g := mo (m1 h) 0 4) fun i hi => by unfold ms mo; rw [if_pos hi, if_pos hi]; omega)
      have HXX := Lib.hid (HX.out.ext (g := m1 h) fun i hi => by unfold ms; rw [if_pos hi])
      have HIX := Lib.hid (HI.out X HX.out.1)
      obtain ⟨t0, t1⟩ := tp_bd HBD.out 4
      have HTL := Lib.hid (fun i hi => tp_le h (k := 4) (i := i) hi)
      obtain ⟨t, ht⟩ : ∃ t, tp h 4 = t := ⟨_, rfl⟩
      rw [ht] at t0 t1 HTL ⊢
      obtain ⟨q, hq⟩ : ∃ q : Nat, 21 - t = (q : Int) := ⟨(21 - t).toNat, by omega⟩
      have q1 : 1 ≤ q ∧ q ≤ 21 := by omega
      obtain ⟨d, hd⟩ : ∃ d : Nat, (more : Int) % (q : Int) = d := ⟨more % q, by rw [Int.natCast_emod]⟩
      have dq : d < q := by
        have := Nat.mod_lt more (show q > 0 by omega)
        have e : ((more % q : Nat) : Int) = d := by rw [← hd, Int.natCast_emod]
        omega
      have A0 := HS.out.1
      have hne : bx ≠ wr.heap.size := by have := A0.lt; omega
      clear ht
      go_wp2_with (first
        | refine wpList_load_row rfl 22 _ rfl bx rfl _ _ (0, 0) _ HS.out.1 Tryd.underlying22 rfl HIX.out ?_
        | refine wpList_store_row rfl 22 _ _ rfl wr.heap.size X rfl rfl _ _ (At.new wr Z 22) HIX.out (by rw [HZS.out, HXX.out.1]) HXX.out.2.1 ?_)
      rw [World.setRow_alloc_new]
      have HF4 := Lib.hid (show FtS W bx wr.heap.size X X (wr.alloc (.cells X 22)) from ⟨A0.alloc _, At.new wr X _, HS.out.2.alloc HS.out.2.size _⟩)
      have hby0 := HS.out.2.size
      obtain ⟨by', hby⟩ : ∃ by', wr.heap.size = by' := ⟨_, rfl⟩
      rw [hby] at HF4 hne hby0 ⊢
      obtain ⟨w4, hw4⟩ : ∃ w4, wr.alloc (.cells X 22) = w4 := ⟨_, rfl⟩
      rw [hw4] at HF4 ⊢
      have HY0 := Lib.hid (HXX.out.ext (g := mo (m1 h) d 0) fun i _ => by unfold mo; rw [if_neg (by omega)])
      clear hby hw4 HS A0 HX HX1
      go_loopw [11] (fun i w' => ∃ (b : Nat) (Y : Array Value), b ≤ 4 ∧ i = .int .i64 b ∧ Hid (FtS W bx by' X Y w') ∧ Hid (IsRow 4 (mo (m1 h) d b) Y)) (fun i _ => 4 - (intOf i).toNat)
      case atStart => exact ⟨0, X, by omega, rfl, HF4, HY0⟩
      case round =>
        obtain ⟨b, Y, hb4, rfl, HF, HY⟩ := hrel
        clear HF4 HY0
        by_cases hlt : b < 4
        · have c0 := HXX.out.cell HF.out.1 b hlt
          have c1 := HY.out.cell HF.out.2.1 b hlt
          have f1 := HF.out.2.1.frozen b
          rw [mo_at] at c1
          have HN := Lib.hid (mo_next (m1 h) d b)
          have hx20 := HTL.out b hlt
          have hx1 : 1 ≤ m1 h b := by unfold m1; omega
          obtain ⟨x, hx⟩ : ∃ x, m1 h b = x := ⟨_, rfl⟩
          rw [hx] at c0 c1 HN hx20 hx1
          have b0 : (0 : Int) ≤ (b : Int) := by omega
          have b1 : (b : Int) < 4 := by omega
          have hw : IntKind.i64.wrap (x + (d : Int)) = x + (d : Int) := IntWalk.i64_in _ (by omega)
          clear hx
          go_wp2_with fail
          go_region
          all_goals
            go_wp2_with fail
            go_roundw
            case rel => exact ⟨b + 1, _, by omega, by go_num, Lib.hid (by first | exact HF.out.set hne hby0 _ _ | exact (HF.out.set hne hby0 _ _).drew | exact HF.out.drew.set hne hby0 _ _ | exact (HF.out.drew.set hne hby0 _ _).drew), Lib.hid ((HY.out.set (k := b) (x + (d : Int)) hlt).ext fun i _ => HN.out i)⟩
            case measure => simp [intOf]; omega
        · obtain rfl : b = 4 := by omega
          have HYY := Lib.hid (HY.out.ext (g := fun i => m1 h i + d) fun i hi => by unfold mo; rw [if_pos hi])
          have HIY := Lib.hid (HI.out Y HY.out.1)
          have okX : okL (m1 h) := fun i hi => by have := HTL.out i hi; unfold m1 at *; omega
          have okY : okL (fun i => m1 h i + d) := fun i hi => by
            have := HTL.out i hi
            have := okX i hi
            show 0 ≤ m1 h i + (d : Int) ∧ m1 h i + (d : Int) ≤ 20
            omega
          have HG := Lib.hid (given_more (L := m1 h) (M := fun i => m1 h i + d) (d := d) (fun i hi => by
            have : 1 ≤ m1 h i := by unfold m1; omega
            exact ⟨by omega, by omega, rfl⟩) n)
          obtain ⟨R, hR⟩ : ∃ R, rowL 4 (fun i => (given (m1 h) n i : Int)) 4 = R := ⟨_, rfl⟩
          have HRR := Lib.hid (show IsRow 4 (fun i => (given (m1 h) n i : Int)) R by rw [← hR]; exact isRow _ _)
          have HCX := Lib.hid (fun w' (hT : Lv.Tab w') => pulses_row X R (m1 h) n w' HXX.out okX (by omega) (by omega) HRR.out hT)
          have HCY := Lib.hid (fun w' (hT : Lv.Tab w') => pulses_row Y R (fun i => m1 h i + d) n w' HYY.out okY (by omega) (by omega) (by rw [← HG.out]; exact HRR.out) hT)
          have e0 := no_guard
          have e1 := rows_eq HRR.out HRR.out (fun _ _ => rfl) Tryd.underlying22
          clear hR okX okY HG HTL HY
          go_wp2_with fail
          rw [hn]
          refine mv_startS (FtS W bx by' X Y) HF.out.drew fun hS => ?_
          refine mv_yield (i := 0) (d := 51) (.agg X) rfl rfl (by kernel_rfl) (by kernel_rfl) (by kernel_rfl) hS (y_loadS (by rfl) rfl rfl (fun _ h => h.1) Tryd.underlying22 HIX.out) ?_
          simp only [Act.put, List.setIfInBounds_toArray, List.set_cons_zero, List.set_cons_succ]
          refine mv_yield (i := 1) (d := 52) (.int .i64 (n : Int)) rfl rfl (by kernel_rfl) (by kernel_rfl) (by kernel_rfl) hS (y_run (by rfl) fun _ => by rfl) ?_
          simp only [Act.put, List.setIfInBounds_toArray, List.set_cons_zero, List.set_cons_succ]
          refine mv_yield (i := 3) (d := 54) (.agg Y) rfl rfl (by kernel_rfl) (by kernel_rfl) (by kernel_rfl) hS (y_loadS (by rfl) rfl rfl (fun _ h => h.2.1) Tryd.underlying22 HIY.out) ?_
          simp only [Act.put, List.setIfInBounds_toArray, List.set_cons_zero, List.set_cons_succ]
          refine mv_yield (i := 4) (d := 55) (.int .i64 (n : Int)) rfl rfl (by kernel_rfl) (by kernel_rfl) (by kernel_rfl) hS (y_run (by rfl) fun _ => by rfl) ?_
          simp only [Act.put, List.setIfInBounds_toArray, List.set_cons_zero, List.set_cons_succ]
          refine mv_ready [2] (by kernel_rfl) (by simp) (ar_callP (d := 53) #[.agg X, .int .i64 (n : Int)] rfl rfl (by rfl) rfl enter_pulses (by kernel_rfl) (HCX.out _ (HTB.out.next hS.2.2)) (fun w' h => hS.next h) ?_ AllReadyH.nil)
          rintro w2 _ hS2
          clear hS
          have hS := hS2
          clear hS2
          simp only [Act.put, List.setIfInBounds_toArray, List.set_cons_zero, List.set_cons_succ]
          refine mv_ready [5] (by kernel_rfl) (by simp) (ar_callP (d := 56) #[.agg Y, .int .i64 (n : Int)] rfl rfl (by rfl) rfl enter_pulses (by kernel_rfl) (HCY.out _ (HTB.out.next hS.2.2)) (fun w' h => hS.next h) ?_ AllReadyH.nil)
          rintro w5 _ hS5
          clear hS
          have hS := hS5
          clear hS5
          simp only [Act.put, List.setIfInBounds_toArray, List.set_cons_zero, List.set_cons_succ]
          refine mv_yield (i := 6) (d := 57) (.bool true) rfl rfl (by kernel_rfl) (by kernel_rfl) (by kernel_rfl) hS (y_eql (by rfl) rfl rfl rfl e0 e1) ?_
          simp only [Act.put, List.setIfInBounds_toArray, List.set_cons_zero, List.set_cons_succ]
          refine mv_yield (i := 7) (d := 6) (.bool true) rfl rfl (by kernel_rfl) (by kernel_rfl) (by kernel_rfl) hS (y_run (by rfl) fun _ => by rfl) ?_
          simp only [Act.put, List.setIfInBounds_toArray, List.set_cons_zero, List.set_cons_succ]
          refine mv_done (by kernel_rfl) ?_
          have FS1 := Lib.hid hS
          clear hS
          go_wp2_with fail
          go_ret
          exact ⟨rfl, FS1.out.2.2⟩

theorem spareSame_walk (T0 : Array Value) (f0 : Nat → Int) (s0 : IsRow 4 f0 T0) (a1 : Int) (w1 : (Lit.int .u16 a1).wf = true) (a2 : Int) (w2 : (Lit.int .u8 a2).wf = true) (W : World) (hT : Lv.Tab W) :
    Calls Tryd.prog 4 #[.agg T0, .int .u16 a1, .int .u8 a2] W fun e w' => e = .returned (.bool true) ∧ Below W.heap.size W w' := by
  obtain ⟨n, rfl, hn⟩ := u16_bd w1
  obtain ⟨m, rfl, hm⟩ := u8_bd w2
  exact spareSame_nat T0 f0 n m W s0 hn hm hT
end Go.Proofs.YtfcaigggacgfkaaDoor.Sp
