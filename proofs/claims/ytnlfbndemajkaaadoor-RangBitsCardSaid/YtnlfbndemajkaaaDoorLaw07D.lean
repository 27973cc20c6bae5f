/- RangBits: the walk. -/
import Derived.Test.YtnlfbndemajkaaaDoorRgP
import Derived.Test.YtnlfbndemajkaaaDoorSli
import Derived.Deep.DeepCutAuto
import Derived.StillTailTactics
set_option maxRecDepth 100000
set_option linter.unusedVariables false
namespace Go.Proofs.YtnlfbndemajkaaaDoor.Rg
open Go.RowKit Go.Proofs.YtnlfbndemajkaaaDoor.Row

theorem u32_wf {x : Int} (h : (Lit.int .u32 x).wf = true) : 0 ≤ x ∧ x ≤ 4294967295 := by
  simp only [Lit.wf, Bool.and_eq_true, decide_eq_true_eq] at h
  have e1 : IntKind.u32.min = 0 := by decide
  have e2 : IntKind.u32.max = 4294967295 := by decide
  rw [e1, e2] at h
  exact h
theorem u8_wf {x : Int} (h : (Lit.int .u8 x).wf = true) : 0 ≤ x ∧ x ≤ 255 := by
  simp only [Lit.wf, Bool.and_eq_true, decide_eq_true_eq] at h
  have e1 : IntKind.u8.min = 0 := by decide
  have e2 : IntKind.u8.max = 255 := by decide
  rw [e1, e2] at h
  exact h

theorem EncOn.out {w w1 : World} {b size : Nat} {x : St} (h : EncOn w b size x w1) : Below w.heap.size w w1 := by
  obtain ⟨T, h1, h2, h3⟩ := h
  exact h3

theorem pow_still (n p : Int) (w : World) (h1 : 0 ≤ n) (h2 : n ≤ 62) (h : 2 ^ n.toNat = p) :
    Calls Tryd.prog 20 #[.int .i64 n] w fun e w' => e = .returned (.int .i64 p) ∧ w' = w := (Ref01.pow_as n p w h1 h2 h).mono fun _ _ h => ⟨h.1, h.2.symm⟩

set_option maxHeartbeats 4000000 in
theorem rangBits_walk (a0 : Option Addr) (n0 c0 : Nat) (f0 : Nat → Int) (a1 : Option Addr) (n1 c1 : Nat) (f1 : Nat → Int) (W : World) (s0 : Sl .u32 W a0 n0 c0 f0) (b0 : ∀ i, i < n0 → (Lit.int .u32 (f0 i)).wf = true) (s1 : Sl .u8 W a1 n1 c1 f1) (b1 : ∀ i, i < n1 → (Lit.int .u8 (f1 i)).wf = true) :
    Calls Tryd.prog 4 #[.slice a0 n0 c0, .slice a1 n1 c1] W fun e w' => e = .returned (.bool true) ∧ Below W.heap.size W w' := by
  have S0 := Lib.hid s0
  have S1 := Lib.hid s1
  have F0 := Lib.hid b0
  have F1 := Lib.hid b1
  have h0 := s0.2.1
  have h1 := s0.1
  have h2 := s1.2.1
  have h3 := s1.1
  unfold maxLen at h0 h2
  clear s0 s1 b0 b1
  by_cases hl0 : 100 < n0
  · go_enter Tryd.func4, Tryd.ntmps4
    go_wp2_with fail
    refine (awake_yes _).mono ?_
    rintro e w1 ⟨rfl, h1⟩
    have B1 := Lib.hid h1
    clear h1
    go_wp2_with fail
    refine (awake_yes _).mono ?_
    rintro e w2 ⟨rfl, h2⟩
    have B2 := Lib.hid h2
    clear h2
    go_wp2
    go_ret
    exact ⟨rfl, below_trans B1.out B2.out B1.out.size⟩
  · by_cases hl1 : 100 < n1
    · have hl0' : n0 ≤ 100 := by omega
      clear hl0
      go_enter Tryd.func4, Tryd.ntmps4
      go_wp2_with fail
      refine (awake_yes _).mono ?_
      rintro e w1 ⟨rfl, h1⟩
      have B1 := Lib.hid h1
      clear h1
      go_wp2_with fail
      refine (awake_yes _).mono ?_
      rintro e w2 ⟨rfl, h2⟩
      have B2 := Lib.hid h2
      clear h2
      go_wp2
      go_ret
      exact ⟨rfl, below_trans B1.out B2.out B1.out.size⟩
    · have hl0' : n0 ≤ 100 := by omega
      have hl1' : n1 ≤ 100 := by omega
      clear hl0 hl1 h0 h1 h2 h3
      obtain ⟨M, hM⟩ : ∃ M, min n0 n1 = M := ⟨_, rfl⟩
      have hM0 : M ≤ n0 := by omega
      have hM1 : M ≤ n1 := by omega
      have HM := Lib.hid hM
      clear hM
      obtain ⟨xs, hxs⟩ : ∃ xs, numP f0 f1 = xs := ⟨_, rfl⟩
      have HR := Lib.hid (fun i (h : i < M) => hxs ▸ numP_reckon f0 f1 i (u32_wf (F0.out i (by omega))).1 (u8_wf (F1.out i (by omega))).1)
      have HB := Lib.hid (fun i => hxs ▸ numP_bits f0 f1 i : ∀ i, (xs i).2 ≤ 24 ∧ (xs i).1 < 2 ^ (xs i).2)
      clear hxs
      go_enter Tryd.func4, Tryd.ntmps4
      go_wp2_with fail
      refine (awake_yes _).mono ?_
      rintro e w1 ⟨rfl, h1⟩
      have B1 := Lib.hid h1
      clear h1
      go_wp2_with fail
      refine (newEnc_yes 1000 _ (by omega) (by omega)).mono ?_
      intro e w2 h
      obtain ⟨b, rfl, h2⟩ := EncOn.new h
      have E2 := Lib.hid (EncOn.from B1.out h2)
      clear h h2 B1
      go_wp2
      go_loopw [7] (fun i wr => ∃ k : Nat, k ≤ M ∧ i = .int .i64 k ∧ EncOn W b 1000 (nSt xs k) wr) (fun i _ => 100 - (intOf i).toNat)
      case atStart => exact ⟨0, Nat.zero_le _, rfl, E2.out⟩
      case round =>
        obtain ⟨k, hk, rfl, hE⟩ := hrel
        have E := Lib.hid hE
        clear hE E2
        by_cases hlt : k < M
        · obtain ⟨K, P, X, e1, e2, e3, e4, e5, k1, k2, p1, p2⟩ := HR.out k hlt
          have hsa := S0.out.2.2 (by omega)
          obtain ⟨g0, o0, rfl, d0⟩ := hsa
          have hsb := S1.out.2.2 (by omega)
          obtain ⟨g1, o1, rfl, d1⟩ := hsb
          obtain ⟨_, _, _, hbw⟩ := id E.out
          have d0' := (Below.cell hbw (block_lt_of_cell (d0 k (by omega)))).trans (d0 k (by omega))
          have d1' := (Below.cell hbw (block_lt_of_cell (d1 k (by omega)))).trans (d1 k (by omega))
          obtain ⟨r0, r0'⟩ := u32_wf (F0.out k (by omega))
          obtain ⟨r1, r1'⟩ := u8_wf (F1.out k (by omega))
          obtain ⟨V, hV⟩ : ∃ V, f0 k = V := ⟨_, rfl⟩
          obtain ⟨U, hU⟩ : ∃ U, f1 k = U := ⟨_, rfl⟩
          rw [hV] at d0' r0 r0' e3
          rw [hU] at d1' r1 r1' e1
          have HD0 := Lib.hid (fun w' (hb : Below W.heap.size W w') => (Below.cell hb (block_lt_of_cell (d0 k (by omega)))).trans (hV ▸ d0 k (by omega)) : ∀ w', Below W.heap.size W w' → w'.cell? ⟨g0, o0 + k, none⟩ = some (.int .u32 V))
          clear hV hU d0 d1 hbw
          have e3' : V % P = X := by rw [← e3]; exact (Int.tmod_eq_emod_of_nonneg r0).symm
          have HE2 := Lib.hid e2
          have HE4 := Lib.hid (e4.trans e3'.symm)
          clear e3 e3'
          have HE5 := Lib.hid e5
          clear e2 e4 e5
          have HX := Lib.hid (nSt_next xs k)
          have YOK := Lib.hid (nSt_ok xs k)
          have hg := nSt_g xs k
          obtain ⟨y, hy⟩ : ∃ y, nSt xs k = y := ⟨_, rfl⟩
          rw [hy] at hg HX YOK E
          obtain ⟨h24, hx2⟩ := HB.out k
          obtain ⟨⟨x, n⟩, hxn⟩ : ∃ p, xs k = p := ⟨_, rfl⟩
          rw [hxn] at h24 hx2 HE4 HE5 HX
          have P0 : ¬ P = 0 := by omega
          have P00 : (P == 0) = false := by rw [beq_eq_false_iff_ne]; exact P0
          dsimp only at h24 hx2 HE4 HE5 HX
          have HX2 := Lib.hid hx2
          clear hy hxn hx2
          go_wp2_with fail
          have hc := HD0.out wr.drew (E.out.out.drew)
          refine wp_region_still_tail 10 (by kernel_rfl) (by kernel_rfl) ?_
          simp only [List.take_succ_cons, List.take_zero, List.drop_succ_cons, List.drop_zero]
          repeat still_step
          still_call (pow_still K P _ k1 (by omega) HE2.out)
          repeat still_step
          refine wpStill_nil ?_
          go_wp2_with fail
          have CB := bits_on W wr.drew b 1000 y x n (V % P) K HE4.out HE5.out (E.out.below (Below.refl _ _).drew) YOK.out (by omega) (by omega) h24 HX2.out
          refine CB.mono ?_
          clear CB
          rintro e w5 ⟨rfl, h5⟩
          have E5 := Lib.hid h5; clear h5
          go_wp2
          go_roundw
          case rel => exact ⟨k + 1, by omega, by go_num, by rw [HX.out]; exact E5.out⟩
          case measure => simp [intOf]; omega
        · obtain rfl : k = M := by omega
          go_upto_region 5 with fail
          go_cut [42] (fun s wx => s = .bool false ∧ wr = wx)
          case first =>
            by_cases hk0 : k < n0
            · have hk1 : ¬ k < n1 := by have := HM.out; omega
              go_wp2
              go_meet
              exact ⟨rfl, rfl⟩
            · go_wp2
              go_meet
              exact ⟨rfl, rfl⟩
          case rest =>
            obtain ⟨rfl, rfl⟩ := hcut
            have xok := nSt_ok xs k
            have xg := nSt_g xs k
            have HMET := Lib.hid (fun j (h : j < k) => nSt_met xs h (HB.out j).1 (HB.out j).2)
            have HINN := Lib.hid (fun j (h : j ≤ k) => nSt_end xs h)
            obtain ⟨X, hX⟩ : ∃ X, nSt xs k = X := ⟨_, rfl⟩
            rw [hX] at xok xg E HMET HINN
            have HXK := Lib.hid hX
            have tl := trim_len X
            have tfit : X.trim.length ≤ 1000 := by omega
            obtain ⟨t, ht⟩ : ∃ t, X.text 1000 = t := ⟨_, rfl⟩
            obtain ⟨tb, htb⟩ : ∃ tb : ByteArray, ⟨t.toArray⟩ = tb := ⟨_, rfl⟩
            have htlen : t.length = 1000 := by rw [← ht]; exact text_length tfit
            have HTB := Lib.hid htb
            have HO1 := Lib.hid (show (⟨(X.out 1000).toArray⟩ : ByteArray) = tb by unfold St.out; rw [if_pos tfit, ht, htb])
            have HO2 := Lib.hid (show X.err 1000 = 0 by unfold St.err; rw [if_pos tfit])
            have HBF := Lib.hid (show byteF t = digit X.L X.g by rw [← ht]; exact text_digit X 1000)
            have HFIT := Lib.hid (show X.L < 4294967296 * 256 ^ X.g by have := xok.2.2; omega)
            have HXOK := Lib.hid xok
            clear hX ht htb tl tfit xok hk
            go_wp2_with fail
            refine (done_on W _ b 1000 X tb 0 E.out (by omega) HO1.out HO2.out).mono ?_
            rintro e w5 ⟨rfl, h5⟩
            have E5 := Lib.hid h5
            clear h5 E
            go_wp2_with fail
            refine (newDec_as tb t _ HTB.out (by omega)).mono ?_
            rintro e w6 ⟨bd, T, rfl, hD6, hT6, hb6⟩
            rw [HBF.out, dt_first HFIT.out] at hD6
            have B6 := Lib.hid (Both.new (t := t) E5.out hD6 hT6 hb6)
            clear hD6 hT6 hb6 E5 HO1 HO2 HTB HFIT
            go_wp2
            go_loopw [12] (fun i wr => ∃ j : Nat, j ≤ k ∧ i = .int .i64 j ∧ Both W b X bd t (dtOf X.L X.g (nSt xs j)) wr) (fun i _ => 100 - (intOf i).toNat)
            case atStart => exact ⟨0, Nat.zero_le _, rfl, B6.out⟩
            case round =>
              obtain ⟨j, hj, rfl, hb⟩ := hrel
              have B := Lib.hid hb
              clear hb
              by_cases hlt : j < k
              · obtain ⟨K, P, Y, e1, e2, e3, e4, e5, k1, k2, p1, p2⟩ := HR.out j hlt
                have hsa := S0.out.2.2 (by omega)
                obtain ⟨g0, o0, rfl, d0⟩ := hsa
                have hsb := S1.out.2.2 (by omega)
                obtain ⟨g1, o1, rfl, d1⟩ := hsb
                have hbw := B.out.out
                have d1' := (Below.cell hbw (block_lt_of_cell (d1 j (by omega)))).trans (d1 j (by omega))
                obtain ⟨r0, r0'⟩ := u32_wf (F0.out j (by omega))
                obtain ⟨r1, r1'⟩ := u8_wf (F1.out j (by omega))
                obtain ⟨V, hV⟩ : ∃ V, f0 j = V := ⟨_, rfl⟩
                obtain ⟨U, hU⟩ : ∃ U, f1 j = U := ⟨_, rfl⟩
                rw [hV] at r0 r0' e3
                rw [hU] at d1' r1 r1' e1
                have HD0 := Lib.hid (fun w' (hb : Below W.heap.size W w') => (Below.cell hb (block_lt_of_cell (d0 j (by omega)))).trans (hV ▸ d0 j (by omega)) : ∀ w', Below W.heap.size W w' → w'.cell? ⟨g0, o0 + j, none⟩ = some (.int .u32 V))
                clear hV hU d0 d1 hbw
                have e3' : V % P = Y := by rw [← e3]; exact (Int.tmod_eq_emod_of_nonneg r0).symm
                have HE2 := Lib.hid e2
                have HE4 := Lib.hid (e4.trans e3'.symm)
                clear e3 e3'
                have HE5 := Lib.hid e5
                clear e2 e4 e5
                have hm := HMET.out j hlt
                have hdok := dtOf_ok (nSt_ok xs j) (HINN.out j (by omega))
                have hg : (dtOf X.L X.g (nSt xs j)).g ≤ 6 * j := nSt_g xs j
                obtain ⟨d, hd⟩ : ∃ d, dtOf X.L X.g (nSt xs j) = d := ⟨_, rfl⟩
                rw [hd] at hm hdok hg B
                obtain ⟨h24, _⟩ := HB.out j
                obtain ⟨⟨x, n⟩, hxn⟩ : ∃ p, xs j = p := ⟨_, rfl⟩
                rw [hxn] at hm h24 HE4 HE5
                rw [← HBF.out] at hm
                have P0 : ¬ P = 0 := by omega
                have P00 : (P == 0) = false := by rw [beq_eq_false_iff_ne]; exact P0
                dsimp only at h24 HE4 HE5 hm
                have HMM := Lib.hid hm
                have HDOK := Lib.hid hdok
                clear hd hxn hm hdok
                go_wp2_with fail
                have CD := bits_both W wr b bd X t d _ n x K HE5.out B.out HDOK.out (by omega) h24 (by omega) HMM.out
                refine CD.mono ?_
                clear CD
                rintro e w7 ⟨rfl, h7⟩
                have B7 := Lib.hid h7
                have d0' := HD0.out _ h7.out
                have hne : ((x : Int) != V % P) = false := by have := HE4.out; simp [this]
                have hne2 : ((x : Int) == V % P) = true := by have := HE4.out; simp [this]
                clear h7 B
                go_wp2_with fail
                go_quiet ((go_at_call 20; exact Calls.quiet_of_same (pow_still K P _ k1 (by omega) HE2.out)))
                go_wp2
                go_roundw
                case rel => exact ⟨j + 1, by omega, by go_num, B7.out.below (below_drewN (Below.refl _ _) _)⟩
                case measure => simp [intOf]; omega
              · obtain rfl : j = k := by omega
                have HXOK' := HXOK.out
                rw [HXK.out] at B
                obtain ⟨u, hu⟩ : ∃ u, X.used = u := ⟨_, rfl⟩
                have HU := Lib.hid hu
                have hdok := dtOf_ok (nSt_ok xs j) (HINN.out j (Nat.le_refl _))
                rw [HXK.out] at hdok
                have HDOK := Lib.hid hdok
                obtain ⟨d, hd⟩ : ∃ d, dtOf X.L X.g X = d := ⟨_, rfl⟩
                have hgd : d.g ≤ 600 := by rw [← hd]; show X.g ≤ 600; omega
                have HDU := Lib.hid (show d.used = u by rw [← hd]; exact hu)
                rw [hd] at B HDOK
                have hr4 := HXOK.out.2.1
                clear hd hu HXOK' hdok
                go_upto_region 13 with fail
                go_cut [79] (fun s wx => s = .bool false ∧ wr = wx)
                case first =>
                  by_cases hk0 : j < n0
                  · have hk1 : ¬ j < n1 := by have := HM.out; omega
                    go_wp2
                    go_meet
                    exact ⟨rfl, rfl⟩
                  · go_wp2
                    go_meet
                    exact ⟨rfl, rfl⟩
                case rest =>
                  obtain ⟨rfl, rfl⟩ := hcut
                  go_wp2_with fail
                  refine (decUsed_both W _ b bd X t d u B.out HDOK.out (by omega) HDU.out).mono ?_
                  rintro e w8 ⟨rfl, h8⟩
                  have B8 := Lib.hid h8
                  clear h8 B
                  go_wp2_with fail
                  refine (encUsed_both W _ b bd X t d u B8.out hr4 (by omega) HU.out).mono ?_
                  rintro e w9 ⟨rfl, h9⟩
                  have B9 := Lib.hid h9.out
                  clear h9 B8
                  go_wp2
                  go_ret
                  exact ⟨by first | rfl | simp, B9.out⟩
end Go.Proofs.YtnlfbndemajkaaaDoor.Rg
