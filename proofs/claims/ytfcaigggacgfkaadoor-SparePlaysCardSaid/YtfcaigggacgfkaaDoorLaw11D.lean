/- SparePlays: the walks. -/
import Derived.Test.YtfcaigggacgfkaaDoorLaw11A
import Derived.Test.YtfcaigggacgfkaaDoorSpH
import Derived.Test.YtfcaigggacgfkaaDoorLaw11B
set_option maxRecDepth 100000
set_option linter.unusedVariables false
namespace Go.Proofs.YtfcaigggacgfkaaDoor.Sp
open Go.RowKit Go.Proofs.YtfcaigggacgfkaaDoor.Row

/-- No pulses. -/
def zG (_ : Nat) : Nat := 0
/-- The room, case by case: what the tests say, and what comes out. -/
theorem rm_cases (s u : Int) (hs : -9223372036854775808 ≤ s) : (decide (10 ≤ s) = false ∧ rm s u = 0) ∨ (decide (10 ≤ s) = true ∧ decide (s ≤ 32) = false ∧ rm s u = 0) ∨
    (10 ≤ s ∧ s ≤ 32 ∧ decide (10 ≤ s) = true ∧ decide (s ≤ 32) = true ∧ decide (0 ≤ u) = false ∧ rm s u = 0) ∨
    (10 ≤ s ∧ s ≤ 32 ∧ 0 ≤ u ∧ decide (10 ≤ s) = true ∧ decide (s ≤ 32) = true ∧ decide (0 ≤ u) = true ∧ decide (u < 8 * s - 40) = false ∧ rm s u = 0) ∨
    (10 ≤ s ∧ s ≤ 32 ∧ 0 ≤ u ∧ u < 8 * s - 40 ∧ decide (10 ≤ s) = true ∧ decide (s ≤ 32) = true ∧ decide (0 ≤ u) = true ∧ decide (u < 8 * s - 40) = true ∧ rm s u = 8 * s - 40 - u) := by
  simp only [decide_eq_false_iff_not, decide_eq_true_eq]
  unfold rm
  split <;> omega

set_option maxHeartbeats 2000000 in
theorem sparePlays_yes (T : Array Value) (L : Nat → Int) (bits s u : Int) (W : World) (hR : IsRow 4 L T) (ho : okP L bits) (hs : -9223372036854775808 ≤ s) (hu : u ≤ 9223372036854775807) (hT : Lv.Tab W) :
    Calls Tryd.prog 5 #[.agg T, .int .i64 bits, .int .i64 s, .int .i64 u] W fun e w' => e = .returned (.bool true) ∧ Below W.heap.size W w' := by
  obtain ⟨Z, hZ, hZ0, hz, hi⟩ := zero4
  have HI := Lib.hid hi
  have HTB := Lib.hid hT
  have HR := Lib.hid hR
  have HZ := Lib.hid hZ
  have HIT := Lib.hid (hi T hR.1)
  have HO := Lib.hid ho
  have H0 := Lib.hid (At.new W T 22)
  have HB0 := Lib.hid ((Below.refl W.heap.size W).alloc (Nat.le_refl _) (.cells T 22))
  have HPU := Lib.hid (fun w' (hT : Lv.Tab w') => pulses_yes T L bits w' hR ho.1 ho.2.1 ho.2.2 hT)
  obtain ⟨left, hfin⟩ := given_fin L ho.2.1
  have HG8 := Lib.hid hfin.few
  have HRI := Lib.hid (fun w' => right_yes T L bits w' hR ho)
  have HRP := Lib.hid (fun w' => refPulses_as T L bits w' hR ho)
  clear hfin
  have HCA := Lib.hid (rm_cases s u hs)
  have HRM := Lib.hid (fun r w h => room_as s u r w hu h)
  clear hZ hZ0 hi hR hT ho hs
  go_enter Tryd.func5, Tryd.ntmps5
  go_wp2_with fail
  refine (awake_yes _ (HTB.out.next HB0.out)).mono ?_
  rintro e w1 ⟨rfl, h1⟩
  have H1 := Lib.hid (H0.out.below h1 H0.out.lt)
  have HB1 := Lib.hid (below_trans HB0.out h1 HB0.out.size)
  clear h1 H0 HB0
  go_wp2_with (refine wpList_load_row rfl 22 _ rfl W.heap.size rfl _ _ (0, 0) _ H1.out Tryd.underlying22 rfl HIT.out ?_)
  refine (HPU.out _ (HTB.out.next HB1.out)).mono ?_
  rintro e w2 ⟨⟨K, rfl, hK⟩, h2⟩
  have HK := Lib.hid hK
  have HIK := Lib.hid (HI.out K hK.1)
  have H2 := Lib.hid (H1.out.below h2 H1.out.lt)
  have HB2 := Lib.hid (below_trans HB1.out h2 HB1.out.size)
  clear hK h2 H1 HB1 HPU
  have hlt0 := H2.out.lt
  have A2 : Hid (At ((w2.alloc (.cells K 22)).alloc (.cells Z 22)) W.heap.size T 22 ∧ At ((w2.alloc (.cells K 22)).alloc (.cells Z 22)) w2.heap.size K 22 ∧ At ((w2.alloc (.cells K 22)).alloc (.cells Z 22)) (w2.heap.size + 1) Z 22 ∧ Below W.heap.size W ((w2.alloc (.cells K 22)).alloc (.cells Z 22))) := Lib.hid
    ⟨(H2.out.alloc _).alloc _, (At.new w2 K _).alloc _, by have := At.new (w2.alloc (.cells K 22)) Z 22; simpa using this, (HB2.out.alloc HB2.out.size _).alloc (by have := HB2.out.size; simp; omega) _⟩
  have A0 : At ((w2.alloc (.cells Z 22)).setRow w2.heap.size K) W.heap.size T 22 := (H2.out.alloc _).setRow_other (by omega)
  go_wp2_with (first
    | (refine wpList_store_row rfl 22 _ _ rfl w2.heap.size K rfl rfl _ _ (At.new w2 Z 22) HIK.out (by rw [HK.out.1, HZ.out.1]) HK.out.2.1 ?_; rw [World.setRow_alloc_new])
    | refine wpList_load_row rfl 22 _ rfl W.heap.size rfl _ _ (0, 0) _ A2.out.1 Tryd.underlying22 rfl HIT.out ?_)
  obtain ⟨w3, hw3⟩ : ∃ w3, (w2.alloc (.cells K 22)).alloc (.cells Z 22) = w3 := ⟨_, rfl⟩
  rw [hw3] at A2 ⊢
  obtain ⟨bk, hbk⟩ : ∃ bk, w2.heap.size = bk := ⟨_, rfl⟩
  rw [hbk] at A2 hlt0 ⊢
  clear hw3 hbk A0 H2
  have hge := HB2.out.size
  refine (HRI.out _).mono ?_
  rintro e w4 ⟨rfl, h4⟩
  have B1 := Lib.hid (A2.out.1.below h4 A2.out.1.lt)
  have B2 := Lib.hid (A2.out.2.1.below h4 A2.out.2.1.lt)
  have B3 := Lib.hid (A2.out.2.2.1.below h4 A2.out.2.2.1.lt)
  have B4 := Lib.hid (below_trans A2.out.2.2.2 h4 A2.out.2.2.2.size)
  clear h4 A2 HRI
  go_wp2_with (refine wpList_load_row rfl 22 _ rfl W.heap.size rfl _ _ (0, 0) _ B1.out Tryd.underlying22 rfl HIT.out ?_)
  refine (HRP.out _).mono ?_
  rintro e w5 ⟨⟨K2, rfl, hK2⟩, h5⟩
  have HK2 := Lib.hid hK2
  have HIK2 := Lib.hid (HI.out K2 hK2.1)
  have C2 := Lib.hid (B2.out.below h5 B2.out.lt)
  have C3 := Lib.hid (B3.out.below h5 B3.out.lt)
  have C4 := Lib.hid (below_trans B4.out h5 B4.out.size)
  clear hK2 h5 B1 B2 B3 B4 HRP
  go_wp2_with (refine wpList_store_row rfl 22 _ _ rfl (bk + 1) K2 rfl rfl _ _ C3.out HIK2.out (by rw [HK2.out.1, HZ.out.1]) HK2.out.2.1 ?_)
  have HF := Lib.hid (show FtS W bk (bk + 1) K K2 (w5.setRow (bk + 1) K2) from ⟨C2.out.setRow_other (by omega), C3.out.setRow, below_setRow' C4.out (by omega) _⟩)
  obtain ⟨w6, hw6⟩ : ∃ w6, w5.setRow (bk + 1) K2 = w6 := ⟨_, rfl⟩
  rw [hw6] at HF ⊢
  clear hw6 C2 C3 C4
  go_loopw [11, 12] (fun v i w' => ∃ b : Nat, b ≤ 4 ∧ i = .int .i64 b ∧ v = .int .i64 (sc (fun i => ((given L bits) i : Int)) b) ∧ Hid (FtS W bk (bk + 1) K K2 w')) (fun _ i _ => 4 - (intOf i).toNat)
  case atStart => exact ⟨0, by omega, rfl, rfl, HF⟩
  case round =>
    obtain ⟨b, hb4, rfl, rfl, HF1⟩ := hrel
    clear HF
    by_cases hlt : b < 4
    · have c0 : wr.cell? ⟨bk + 1, b, none⟩ = some (.int .i64 (((given L bits) b : Nat) : Int)) := HK2.out.cell HF1.out.2.1 b hlt
      have g8 := HG8.out b
      have HN := Lib.hid (show sc (fun i => ((given L bits) i : Int)) (b + 1) = sc (fun i => ((given L bits) i : Int)) b + P b ((given L bits) b) from rfl)
      have HCO := Lib.hid (fun w' => refCost_as b ((given L bits) b) (P b ((given L bits) b)) w' hlt g8 rfl)
      have p1 := P_le b ((given L bits) b)
      have s1 := sc_le (fun i => ((given L bits) i : Int)) b
      obtain ⟨k, hk⟩ : ∃ k, (given L bits) b = k := ⟨_, rfl⟩
      obtain ⟨x, hx⟩ : ∃ x, P b k = x := ⟨_, rfl⟩
      obtain ⟨y, hy⟩ : ∃ y, sc (fun i => ((given L bits) i : Int)) b = y := ⟨_, rfl⟩
      rw [hk] at c0 g8 HN HCO p1
      rw [hx] at HN HCO p1
      rw [hy] at HN s1 ⊢
      have b0 : (0 : Int) ≤ (b : Int) := by omega
      have b1 : (b : Int) < 4 := by omega
      clear hk hx hy
      go_wp2_with fail
      refine (HCO.out _).mono ?_
      rintro e w5 ⟨rfl, h5⟩
      have HF2 := Lib.hid (HF1.out.next h5)
      clear h5 HF1
      go_wp2_with fail
      go_roundw
      case rel => exact ⟨b + 1, by omega, by go_num, congrArg (Value.int .i64) (by rw [HN.out]; omega), HF2⟩
      case measure => simp [intOf]; omega
    · obtain rfl : b = 4 := by omega
      have HCS := Lib.hid (costAll_as K (fun i => ((given L bits) i : Int)) wr HK.out (HTB.out.next HF1.out.2.2))
      obtain ⟨c, hc⟩ : ∃ c, sc (fun i => ((given L bits) i : Int)) 4 = c := ⟨_, rfl⟩
      rw [hc] at HCS ⊢
      have e0 := no_guard
      have e1 := rows_eq HK.out HK2.out (fun _ _ => rfl) Tryd.underlying22
      clear hc
      rcases HCA.out with ⟨b1, hr⟩ | ⟨b1, b2, hr⟩ | ⟨z1, z2, b1, b2, b3, hr⟩ | ⟨z1, z2, z3, b1, b2, b3, b4, hr⟩ | ⟨z1, z2, z3, z4, b1, b2, b3, b4, hr⟩
      all_goals
        have HRC := Lib.hid (fun w => HRM.out _ w hr)
        clear hr HCA HRM
        go_wp2_with (first
          | refine wpList_load_wanted (by rfl) 22 _ rfl bk rfl _ _ _ _ HF1.out.1 Tryd.underlying22 HIK.out ?_
          | refine wpList_load_wanted (by rfl) 22 _ rfl (bk + 1) rfl _ _ _ _ HF1.out.2.1 Tryd.underlying22 HIK2.out ?_)
        refine HCS.out.mono ?_
        rintro e w6 ⟨rfl, h6⟩
        have HF3 := Lib.hid (HF1.out.next h6)
        clear h6 HF1 HCS
        go_wp2_with fail
        refine (HRC.out _).mono ?_
        rintro e w7 ⟨rfl, rfl⟩
        go_wp2_with fail
        go_ret
        exact ⟨rfl, HF3.out.2.2⟩

set_option maxHeartbeats 2000000 in
theorem sparePlays_no (T : Array Value) (L : Nat → Int) (bits s u : Int) (W : World) (hR : IsRow 4 L T) (ho : ¬ okP L bits) (hs : -9223372036854775808 ≤ s) (hu : u ≤ 9223372036854775807) (hT : Lv.Tab W) :
    Calls Tryd.prog 5 #[.agg T, .int .i64 bits, .int .i64 s, .int .i64 u] W fun e w' => e = .returned (.bool true) ∧ Below W.heap.size W w' := by
  obtain ⟨Z, hZ, hZ0, hz, hi⟩ := zero4
  have HI := Lib.hid hi
  have HTB := Lib.hid hT
  have HR := Lib.hid hR
  have HZ := Lib.hid hZ
  have HIT := Lib.hid (hi T hR.1)
  have HO := Lib.hid ho
  have H0 := Lib.hid (At.new W T 22)
  have HB0 := Lib.hid ((Below.refl W.heap.size W).alloc (Nat.le_refl _) (.cells T 22))
  have HPU := Lib.hid (fun w' (hT : Lv.Tab w') => (show Calls Tryd.prog 10 #[.agg T, .int .i64 bits] w' (RetR 4 w' fun i => (zG i : Int)) from pulses_no T L bits w' hR ho))
  have HG8 : Hid (∀ b : Nat, zG b ≤ 8) := Lib.hid fun _ => by unfold zG; omega
  have HZG : Hid (IsRow 4 (fun i => (zG i : Int)) Z) := Lib.hid hZ
  have HRI := Lib.hid (fun w' => right_no T L bits w' hR ho)
  have HCA := Lib.hid (rm_cases s u hs)
  have HRM := Lib.hid (fun r w h => room_as s u r w hu h)
  clear hZ hZ0 hi hR hT ho hs
  go_enter Tryd.func5, Tryd.ntmps5
  go_wp2_with fail
  refine (awake_yes _ (HTB.out.next HB0.out)).mono ?_
  rintro e w1 ⟨rfl, h1⟩
  have H1 := Lib.hid (H0.out.below h1 H0.out.lt)
  have HB1 := Lib.hid (below_trans HB0.out h1 HB0.out.size)
  clear h1 H0 HB0
  go_wp2_with (refine wpList_load_row rfl 22 _ rfl W.heap.size rfl _ _ (0, 0) _ H1.out Tryd.underlying22 rfl HIT.out ?_)
  refine (HPU.out _ (HTB.out.next HB1.out)).mono ?_
  rintro e w2 ⟨⟨K, rfl, hK⟩, h2⟩
  have HK := Lib.hid hK
  have HIK := Lib.hid (HI.out K hK.1)
  have H2 := Lib.hid (H1.out.below h2 H1.out.lt)
  have HB2 := Lib.hid (below_trans HB1.out h2 HB1.out.size)
  clear hK h2 H1 HB1 HPU
  have hlt0 := H2.out.lt
  have A2 : Hid (At ((w2.alloc (.cells K 22)).alloc (.cells Z 22)) W.heap.size T 22 ∧ At ((w2.alloc (.cells K 22)).alloc (.cells Z 22)) w2.heap.size K 22 ∧ At ((w2.alloc (.cells K 22)).alloc (.cells Z 22)) (w2.heap.size + 1) Z 22 ∧ Below W.heap.size W ((w2.alloc (.cells K 22)).alloc (.cells Z 22))) := Lib.hid
    ⟨(H2.out.alloc _).alloc _, (At.new w2 K _).alloc _, by have := At.new (w2.alloc (.cells K 22)) Z 22; simpa using this, (HB2.out.alloc HB2.out.size _).alloc (by have := HB2.out.size; simp; omega) _⟩
  have A0 : At ((w2.alloc (.cells Z 22)).setRow w2.heap.size K) W.heap.size T 22 := (H2.out.alloc _).setRow_other (by omega)
  go_wp2_with (first
    | (refine wpList_store_row rfl 22 _ _ rfl w2.heap.size K rfl rfl _ _ (At.new w2 Z 22) HIK.out (by rw [HK.out.1, HZ.out.1]) HK.out.2.1 ?_; rw [World.setRow_alloc_new])
    | refine wpList_load_row rfl 22 _ rfl W.heap.size rfl _ _ (0, 0) _ A2.out.1 Tryd.underlying22 rfl HIT.out ?_)
  obtain ⟨w3, hw3⟩ : ∃ w3, (w2.alloc (.cells K 22)).alloc (.cells Z 22) = w3 := ⟨_, rfl⟩
  rw [hw3] at A2 ⊢
  obtain ⟨bk, hbk⟩ : ∃ bk, w2.heap.size = bk := ⟨_, rfl⟩
  rw [hbk] at A2 hlt0 ⊢
  clear hw3 hbk A0 H2
  have hge := HB2.out.size
  refine (HRI.out _).mono ?_
  rintro e w4 ⟨rfl, h4⟩
  have HF := Lib.hid (show FtS W bk (bk + 1) K Z w4 from ⟨A2.out.2.1.below h4 A2.out.2.1.lt, A2.out.2.2.1.below h4 A2.out.2.2.1.lt, below_trans A2.out.2.2.2 h4 A2.out.2.2.2.size⟩)
  have HK2 := HZG
  obtain ⟨K2, hK2⟩ : ∃ K2, Z = K2 := ⟨_, rfl⟩
  have HIK2 := Lib.hid (HI.out Z HZ.out.1)
  rw [hK2] at HF HK2 HIK2
  clear h4 A2 HRI hK2 HZG
  go_wp2_with fail
  go_loopw [11, 12] (fun v i w' => ∃ b : Nat, b ≤ 4 ∧ i = .int .i64 b ∧ v = .int .i64 (sc (fun i => (zG i : Int)) b) ∧ Hid (FtS W bk (bk + 1) K K2 w')) (fun _ i _ => 4 - (intOf i).toNat)
  case atStart => exact ⟨0, by omega, rfl, rfl, HF⟩
  case round =>
    obtain ⟨b, hb4, rfl, rfl, HF1⟩ := hrel
    clear HF
    by_cases hlt : b < 4
    · have c0 : wr.cell? ⟨bk + 1, b, none⟩ = some (.int .i64 ((zG b : Nat) : Int)) := HK2.out.cell HF1.out.2.1 b hlt
      have g8 := HG8.out b
      have HN := Lib.hid (show sc (fun i => (zG i : Int)) (b + 1) = sc (fun i => (zG i : Int)) b + P b (zG b) from rfl)
      have HCO := Lib.hid (fun w' => refCost_as b (zG b) (P b (zG b)) w' hlt g8 rfl)
      have p1 := P_le b (zG b)
      have s1 := sc_le (fun i => (zG i : Int)) b
      obtain ⟨k, hk⟩ : ∃ k, zG b = k := ⟨_, rfl⟩
      obtain ⟨x, hx⟩ : ∃ x, P b k = x := ⟨_, rfl⟩
      obtain ⟨y, hy⟩ : ∃ y, sc (fun i => (zG i : Int)) b = y := ⟨_, rfl⟩
      rw [hk] at c0 g8 HN HCO p1
      rw [hx] at HN HCO p1
      rw [hy] at HN s1 ⊢
      have b0 : (0 : Int) ≤ (b : Int) := by omega
      have b1 : (b : Int) < 4 := by omega
      clear hk hx hy
      go_wp2_with fail
      refine (HCO.out _).mono ?_
      rintro e w5 ⟨rfl, h5⟩
      have HF2 := Lib.hid (HF1.out.next h5)
      clear h5 HF1
      go_wp2_with fail
      go_roundw
      case rel => exact ⟨b + 1, by omega, by go_num, congrArg (Value.int .i64) (by rw [HN.out]; omega), HF2⟩
      case measure => simp [intOf]; omega
    · obtain rfl : b = 4 := by omega
      have HCS := Lib.hid (costAll_as K (fun i => (zG i : Int)) wr HK.out (HTB.out.next HF1.out.2.2))
      obtain ⟨c, hc⟩ : ∃ c, sc (fun i => (zG i : Int)) 4 = c := ⟨_, rfl⟩
      rw [hc] at HCS ⊢
      have e0 := no_guard
      have e1 := rows_eq HK.out HK2.out (fun _ _ => rfl) Tryd.underlying22
      clear hc
      rcases HCA.out with ⟨b1, hr⟩ | ⟨b1, b2, hr⟩ | ⟨z1, z2, b1, b2, b3, hr⟩ | ⟨z1, z2, z3, b1, b2, b3, b4, hr⟩ | ⟨z1, z2, z3, z4, b1, b2, b3, b4, hr⟩
      all_goals
        have HRC := Lib.hid (fun w => HRM.out _ w hr)
        clear hr HCA HRM
        go_wp2_with (first
          | refine wpList_load_wanted (by rfl) 22 _ rfl bk rfl _ _ _ _ HF1.out.1 Tryd.underlying22 HIK.out ?_
          | refine wpList_load_wanted (by rfl) 22 _ rfl (bk + 1) rfl _ _ _ _ HF1.out.2.1 Tryd.underlying22 HIK2.out ?_)
        refine HCS.out.mono ?_
        rintro e w6 ⟨rfl, h6⟩
        have HF3 := Lib.hid (HF1.out.next h6)
        clear h6 HF1 HCS
        go_wp2_with fail
        refine (HRC.out _).mono ?_
        rintro e w7 ⟨rfl, rfl⟩
        go_wp2_with fail
        go_ret
        exact ⟨rfl, HF3.out.2.2⟩

theorem sparePlays_walk (T0 : Array Value) (f0 : Nat → Int) (s0 : IsRow 4 f0 T0) (a1 : Int) (a2 : Int) (w2 : (Lit.int .i64 a2).wf = true) (a3 : Int) (w3 : (Lit.int .i64 a3).wf = true) (W : World) (hT : Lv.Tab W) :
    Calls Tryd.prog 5 #[.agg T0, .int .i64 a1, .int .i64 a2, .int .i64 a3] W fun e w' => e = .returned (.bool true) ∧ Below W.heap.size W w' := by
  by_cases h : okP f0 a1
  · exact sparePlays_yes T0 f0 a1 a2 a3 W s0 h (i64_bd w2).1 (i64_bd w3).2 hT
  · exact sparePlays_no T0 f0 a1 a2 a3 W s0 h (i64_bd w2).1 (i64_bd w3).2 hT
end Go.Proofs.YtfcaigggacgfkaaDoor.Sp
