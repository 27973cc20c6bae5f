/- Texts of the walk, one behind the other. -/
import Derived.Test.YtimhemcoflpmcaaDoorDecZerosM19
import Derived.Deep.LoopGhost

section
/- Contract of spare's Pulses. -/
set_option maxRecDepth 100000
set_option linter.unusedVariables false
namespace Go.Proofs.YtimhemcoflpmcaaDoor.Sp
open Go.RowKit Go.Proofs.YtimhemcoflpmcaaDoor.Row

/-- What stands when Pulses begins, and while it goes on. -/
def PuS (w w' : World) (TL Z TK : Array Value) : Prop := At w' w.heap.size TL 23 ∧ At w' (w.heap.size + 1) Z 23 ∧ At w' (w.heap.size + 2) TK 23 ∧ Below w.heap.size w w'
theorem PuS.start (w : World) (TL Z : Array Value) : PuS w (((w.alloc (.cells TL 23)).alloc (.cells Z 23)).alloc (.cells Z 23)) TL Z Z := by
  refine ⟨((At.new w TL _).alloc _).alloc _, ?_, ?_, (((Below.refl _ _).alloc (Nat.le_refl _) _).alloc (by simp) _).alloc (by simp; omega) _⟩
  · have := (At.new (w.alloc (.cells TL 23)) Z 23).alloc (.cells Z 23)
    simpa using this
  · have := At.new ((w.alloc (.cells TL 23)).alloc (.cells Z 23)) Z 23
    simpa using this
theorem PuS.next {w w1 w2 : World} {TL Z TK : Array Value} (h : PuS w w1 TL Z TK) (hb : Below w1.heap.size w1 w2) : PuS w w2 TL Z TK :=
  ⟨h.1.below hb h.1.lt, h.2.1.below hb h.2.1.lt, h.2.2.1.below hb h.2.2.1.lt, below_trans h.2.2.2 hb h.2.2.2.size⟩
theorem PuS.drewN {w w1 : World} {TL Z TK : Array Value} (h : PuS w w1 TL Z TK) (n : Nat) : PuS w (w1.drewN n) TL Z TK := ⟨h.1, h.2.1, h.2.2.1, below_drewN h.2.2.2 n⟩
theorem PuS.row {w w1 : World} {TL Z TK : Array Value} (h : PuS w w1 TL Z TK) {b : Nat} (hb : w.heap.size + 2 < b) (C : Array Value) : PuS w (w1.setRow b C) TL Z TK :=
  ⟨h.1.setRow_other (by omega), h.2.1.setRow_other (by omega), h.2.2.1.setRow_other (by omega), below_setRow' h.2.2.2 (by omega) C⟩
theorem PuS.set {w w1 : World} {TL Z TK : Array Value} (h : PuS w w1 TL Z TK) (i : Nat) (v : Value) : PuS w (w1.setCell ⟨w.heap.size + 2, i, none⟩ v) TL Z (TK.setIfInBounds i v) :=
  ⟨h.1.setCell_other (by dsimp only; omega), h.2.1.setCell_other (by dsimp only; omega), h.2.2.1.setCell, h.2.2.2.setCell (by dsimp only; omega) _⟩

set_option maxHeartbeats 800000 in
theorem pulses_yes (TL : Array Value) (L : Nat → Int) (bits : Int) (w : World) (hR : IsRow 4 L TL) (hL : okL L) (h0 : 0 ≤ bits) (h1 : bits ≤ 1048576) (hT : Lv.Tab w) :
    Calls Tryd.prog 20 #[.agg TL, .int .i64 bits] w (RetR 4 w fun i => (given L bits i : Int)) := by
  obtain ⟨Z, hZ, hZ0, hz, hi⟩ := zero4
  obtain ⟨Y, hY, hY0, hy, hi32⟩ := zero32
  have HI := Lib.hid hi
  have HI32 := Lib.hid hi32
  have HTB := Lib.hid hT
  have HR := Lib.hid hR
  have HL := Lib.hid hL
  have HZ := Lib.hid hZ
  have HIL := Lib.hid (hi TL hR.1)
  have HS := Lib.hid (PuS.start w TL Z)
  have HAL := Lib.hid (fun w' => areLevels_yes TL L w' hR hL)
  have HPR := Lib.hid (fun w' (h : Below w.heap.size w w') => prices_as w' (hT.next h))
  have HYS := Lib.hid hY.1
  have HZS := Lib.hid hZ.1
  clear hZ hZ0 hi hi32 hT hR hL hY hY0
  go_enter Tryd.func20, Tryd.ntmps20
  go_wp2_with (refine wpList_load_row rfl 23 _ rfl w.heap.size rfl _ _ (0, 0) _ HS.out.1 Tryd.underlying23 rfl HIL.out ?_)
  go_step3
  go_wp2_with (refine wpList_load_row rfl 23 _ rfl w.heap.size rfl _ _ (0, 0) _ HS.out.1 Tryd.underlying23 rfl HIL.out ?_)
  refine (HAL.out _).mono ?_
  rintro e w1 ⟨rfl, hb1⟩
  have HS1 := Lib.hid (HS.out.next hb1)
  clear hb1 HS HAL
  go_wp2_with fail
  refine (HPR.out _ HS1.out.2.2.2).mono ?_
  rintro e w2 ⟨⟨TP, rfl, hTP⟩, hb2⟩
  have HTP := Lib.hid hTP
  have HIP := Lib.hid (HI32.out TP hTP.1)
  have HS2 := Lib.hid (HS1.out.next hb2)
  clear hb2 hTP HS1 HPR
  have HP6 := Lib.hid ((At.new w2 Y 81).setRow (C := TP))
  have HS6 := Lib.hid (PuS.row (HS2.out.next ((Below.refl _ _).alloc (Nat.le_refl _) (.cells Y 81))) (b := w2.heap.size) (by have := HS2.out.2.2.1.lt; omega) TP)
  go_wp2_with (refine wpList_store_row rfl 81 _ _ rfl w2.heap.size TP rfl rfl _ _ (At.new w2 Y 81) HIP.out (by rw [HYS.out, HTP.out.1]) HTP.out.2.1 ?_)
  go_step3
  go_wp2_with fail
  have hg6 : w.heap.size + 2 < w2.heap.size := HS2.out.2.2.1.lt
  obtain ⟨g6, hg⟩ : ∃ g6, w2.heap.size = g6 := ⟨_, rfl⟩
  rw [hg] at HP6 HS6 hg6 ⊢
  obtain ⟨w3, hw3⟩ : ∃ w3, (w2.alloc (.cells Y 81)).setRow g6 TP = w3 := ⟨_, rfl⟩
  rw [hw3] at HP6 HS6 ⊢
  have HG0 := Lib.hid (Giv.start L h0)
  have HZ0 := Lib.hid (HZ.out.ext (g := fun i => (((fun _ => 0 : Nat → Nat) i : Nat) : Int)) fun _ _ => rfl)
  have HBW := Lib.hid (fun TK K w' hTK hK => byWish_as TL TK L K w' HR.out hTK HL.out hK)
  clear hg hw3 HS2 HYS HI32 HIP HZ
  go_loopg [7] 32 (fun n v w' => ∃ (K : Nat → Nat) (left : Int) (TK : Array Value), v = .int .i64 left ∧ Hid (PuS w w' TL Z TK) ∧ Hid (At w' g6 TP 81) ∧ Hid (IsRow 4 (fun i => (K i : Int)) TK) ∧ Hid (Giv L bits n K left))
  case atStart => exact ⟨fun _ => 0, bits, Z, rfl, HS6, HP6, HZ0, HG0⟩
  case round =>
    obtain ⟨K, left, TK, rfl, HS, HP, HK, HG⟩ := hrel
    obtain ⟨n, hn⟩ : ∃ n, n = gk := ⟨_, rfl⟩
    subst hn
    clear HS6 HP6 HZ0 HG0
    have HC := Lib.hid (HBW.out TK K wr HK.out fun i _ => HG.out.few i)
    have HIK := Lib.hid (HI.out TK HK.out.1)
    have l0 := HG.out.lo
    have l1 := HG.out.hi
    have HF := Lib.hid (fst_best (can L K left) L K)
    go_wp2_with (first
      | refine wpList_load_row rfl 23 _ rfl w.heap.size rfl _ _ (0, 0) _ HS.out.1 Tryd.underlying23 rfl HIL.out ?_
      | refine wpList_load_row rfl 23 _ rfl (w.heap.size + 2) rfl _ _ (0, 0) _ HS.out.2.2.1 Tryd.underlying23 rfl HIK.out ?_)
    refine HC.out.mono ?_
    rintro e w4 ⟨⟨TO, rfl, hTO⟩, hb4⟩
    have HTO := Lib.hid hTO
    have HS4 := Lib.hid (HS.out.next hb4)
    have HP4 := Lib.hid (HP.out.below hb4 HP.out.lt)
    clear hTO hb4 HC HS HP HBW
    go_wp2_with fail
    go_loopg [7, 27] 4 (fun m v p w' => ∃ q : Nat, v = .int .i64 left ∧ q + m = 4 ∧ p = .int .i64 q ∧ Hid (PuS w w' TL Z TK) ∧ Hid (At w' g6 TP 81) ∧ Hid (fst (so (ltW L K) 4) (can L K left) q = bst L K left))
    case atStart => exact ⟨0, rfl, rfl, rfl, HS4, HP4, HF⟩
    case round =>
      obtain ⟨q, rfl, hq, rfl, HS, HP, HQ⟩ := hrel
      clear HS4 HP4 HF
      by_cases hlt : q < 4
      · have hc : TO[q]? = some (.int .i64 ((so (ltW L K) 4 q : Nat) : Int)) := HTO.out.2.2 q hlt
        have d4 := (so_prop (ltW L K) 4).2 q hlt
        have HY := Lib.hid (fst_yes (f := so (ltW L K) 4) (c := can L K left) hlt)
        have HN := Lib.hid (fst_no (f := so (ltW L K) 4) (c := can L K left) hlt)
        obtain ⟨d, hd⟩ : ∃ d, so (ltW L K) 4 q = d := ⟨_, rfl⟩
        rw [hd] at hc d4 HY HN
        clear hd
        have hr := run_index Tryd.underlying23 hlt hc
        have c1 := HR.out.cell HS.out.1 d d4
        have c2 : wr.cell? ⟨w.heap.size + 2, d, none⟩ = some (.int .i64 ((K d : Nat) : Int)) := HK.out.cell HS.out.2.2.1 d d4
        have k8 := HG.out.few d
        have d0 : (0 : Int) ≤ (d : Int) := by omega
        have d1 : (d : Int) < 4 := by omega
        have HCN := Lib.hid (can_iff (L := L) (K := K) (left := left) (b := d))
        have HPR := Lib.hid (fun (h : K d < 8) => HTP.out.cell HP.out (d * 8 + K d) (by omega))
        have HPF := Lib.hid (fun (h : K d < 8) => pf_at (b := d) h)
        have HBD := Lib.hid (fun (h : K d < 8) => pr_bd d4 h)
        obtain ⟨l, hl⟩ : ∃ l, L d = l := ⟨_, rfl⟩
        obtain ⟨k, hk⟩ : ∃ k, K d = k := ⟨_, rfl⟩
        have HKD := Lib.hid hk
        rw [hl] at c1 HCN
        rw [hk] at c2 k8 HPR HPF HBD HCN
        clear hl hk hc
        by_cases a1 : l = 0
        · subst a1
          have HZ := Lib.hid (HN.out (by rw [Bool.eq_false_iff]; intro h; exact (HCN.out.1 h).1 rfl))
          clear HY HN HCN HPR HPF HBD
          go_wp2_with fail
          go_quiet (fail)
          go_wp2_with fail
          go_roundg (4 - (q + 1))
          case measure => omega
          case rel => exact ⟨q + 1, rfl, by omega, by go_num, Lib.hid (HS.out.drewN _), HP, Lib.hid (by rw [← HZ.out]; exact HQ.out)⟩
        by_cases a2 : k = 8
        · have a2i : (k : Int) = 8 := by omega
          have a2n : decide ((k : Int) < 8) = false := decide_eq_false (by omega)
          have a1b : (l != 0) = true := by simp [a1]
          have HZ := Lib.hid (HN.out (by rw [Bool.eq_false_iff]; intro h; have := (HCN.out.1 h).2.1; omega))
          clear HY HN HCN HPR HPF HBD a2 a2i
          go_wp2_with fail
          go_quiet (fail)
          go_wp2_with fail
          go_roundg (4 - (q + 1))
          case measure => omega
          case rel => exact ⟨q + 1, rfl, by omega, by go_num, Lib.hid (HS.out.drewN _), HP, Lib.hid (by rw [← HZ.out]; exact HQ.out)⟩
        have k7 : k < 8 := by omega
        have k70 : (0 : Int) ≤ (k : Int) := by omega
        have k71 : (k : Int) < 8 := by omega
        have c3 := HPR.out k7
        rw [HPF.out k7] at c3
        obtain ⟨x0, x1⟩ := HBD.out k7
        obtain ⟨x, hx⟩ : ∃ x, pr d k = x := ⟨_, rfl⟩
        have HX := Lib.hid hx
        rw [hx] at HCN c3 x0 x1
        clear HPR HPF HBD hx
        by_cases a3 : x ≤ left
        · have HB := Lib.hid ((HY.out (HCN.out.2 ⟨a1, k7, a3⟩)).symm.trans HQ.out)
          clear HY HN HCN HQ
          obtain ⟨m, rfl⟩ : ∃ m, n = m + 1 := ⟨n - 1, by have := HG.out.pos d4 (by rw [HKD.out]; exact k7); omega⟩
          have HG2 := Lib.hid (HG.out.step HB.out.symm d4)
          rw [HKD.out, HX.out] at HG2
          go_wp2_with fail
          go_quiet (fail)
          have e2 : (wr.drewN nq).cell? ⟨w.heap.size + 2, d, none⟩ = some (.int .i64 (k : Int)) := c2
          have e3 : (wr.drewN nq).cell? ⟨g6, d * 8 + k, none⟩ = some (.int .i64 x) := c3
          have HS5 := Lib.hid (HS.out.drewN nq)
          have HP5 := Lib.hid (HP.out.drewN nq)
          clear c1 c2 c3 HS HP
          generalize wr.drewN nq = w5 at HS5 HP5 e2 e3 ⊢
          go_wp2_with fail
          go_quiet (fail)
          have u2 : (w5.drewN nq).cell? ⟨w.heap.size + 2, d, none⟩ = some (.int .i64 (k : Int)) := e2
          have HS6 := Lib.hid (HS5.out.drewN nq)
          have HP6 := Lib.hid (HP5.out.drewN nq)
          clear e2 e3 HS5 HP5
          generalize w5.drewN nq = w6 at HS6 HP6 u2 ⊢
          have v2 := HS6.out.2.2.1.frozen d
          go_wp2_with fail
          go_roundg m
          case measure => omega
          case rel =>
            exact ⟨inc K d, left - x, _, rfl, Lib.hid (HS6.out.set _ _), Lib.hid (HP6.out.setCell_other (by dsimp only; omega)), Lib.hid ((HK.out.set (k := d) _ d4).ext fun i _ => by
              unfold inc
              by_cases c : i = d
              · rw [if_pos c, if_pos c, c, HKD.out]; omega
              · rw [if_neg c, if_neg c]), HG2⟩
        · have HZ := Lib.hid (HN.out (by rw [Bool.eq_false_iff]; intro h; exact a3 (HCN.out.1 h).2.2))
          clear HY HN HCN
          go_wp2_with fail
          go_quiet (fail)
          go_wp2_with fail
          go_roundg (4 - (q + 1))
          case measure => omega
          case rel => exact ⟨q + 1, rfl, by omega, by go_num, Lib.hid (HS.out.drewN _), HP, Lib.hid (by rw [← HZ.out]; exact HQ.out)⟩
      · obtain rfl : q = 4 := by omega
        have HZ := Lib.hid (show bst L K left = 4 by rw [← HQ.out]; exact fst_end _ _)
        have HE := Lib.hid (HG.out.stop HZ.out)
        go_wp2_with (first
          | refine wpList_load_row rfl 23 _ rfl (w.heap.size + 2) rfl _ _ (0, 0) _ HS.out.2.2.1 Tryd.underlying23 rfl HIK.out ?_
          | refine wpList_store_row rfl 23 _ _ rfl (w.heap.size + 1) TK rfl rfl _ _ HS.out.2.1 HIK.out (by rw [HZS.out, HK.out.1]) HK.out.2.1 ?_)
        rw [Exit.noGoto_ret]
        exact bodyPost_ret (v := .agg TK) (results_cell_row rfl _ _ (w.heap.size + 1) 23 TK (0, 0) _ rfl HS.out.2.1.setRow Tryd.underlying23 rfl HIK.out) rfl ⟨⟨TK, rfl, HK.out.ext fun i _ => by rw [HE.out]⟩, below_setRow' HS.out.2.2.2 (by omega) _⟩
end Go.Proofs.YtimhemcoflpmcaaDoor.Sp
end
