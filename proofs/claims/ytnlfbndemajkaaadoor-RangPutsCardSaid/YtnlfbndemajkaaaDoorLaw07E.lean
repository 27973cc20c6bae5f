/- RangPuts: the walk. -/
import Derived.Test.YtnlfbndemajkaaaDoorRgU
import Derived.Deep.DeepCutAuto
import Derived.StillTailTactics
set_option maxRecDepth 100000
set_option linter.unusedVariables false
namespace Go.Proofs.YtnlfbndemajkaaaDoor.Rg
open Go.RowKit Go.Proofs.YtnlfbndemajkaaaDoor.Row

set_option maxHeartbeats 4000000 in
theorem rangPuts_walk (a0 : Int) (a1 : Option Addr) (n1 c1 : Nat) (f1 : Nat → Tr) (W : World) (s1 : SlC W a1 n1 c1 f1) (b1 : ∀ i, i < n1 → (f1 i).fits) :
    Calls Tryd.prog 5 #[.int .i64 a0, .slice a1 n1 c1] W fun e w' => e = .returned (.bool true) ∧ Below W.heap.size W w' := by
  have S1 := Lib.hid s1
  have F1 := Lib.hid b1
  have h2 := s1.2.1
  have h3 := s1.1
  unfold maxLen at h2
  clear s1 b1
  by_cases hl1 : 100 < n1
  · go_enter Tryd.func5, Tryd.ntmps5
    go_wp2_with fail
    refine (awake_yes _).mono ?_
    rintro e w1 ⟨rfl, h1⟩
    have B1 := Lib.hid h1
    clear h1
    go_wp2_with fail
    refine (awake_yes _).mono ?_
    rintro e w2 ⟨rfl, h2⟩
    have B2 := Lib.hid h2
    clear h2
    go_wp2
    go_ret
    exact ⟨rfl, below_trans B1.out B2.out B1.out.size⟩
  · have hl1' : n1 ≤ 100 := by omega
    clear hl1 h2 h3
    by_cases hsz : 1 ≤ a0 ∧ a0 ≤ 4096
    · obtain ⟨z1, z2⟩ := hsz
      obtain ⟨size, rfl⟩ := Int.eq_ofNat_of_zero_le (show 0 ≤ a0 by omega)
      have hs4 : size ≤ 4096 := by omega
      have hs1 : 1 ≤ size := by omega
      go_enter Tryd.func5, Tryd.ntmps5
      go_wp2_with fail
      refine (awake_yes _).mono ?_
      rintro e w1 ⟨rfl, h1⟩
      have B1 := Lib.hid h1
      clear h1
      go_wp2_with fail
      refine (newEnc_yes size _ hs1 hs4).mono ?_
      intro e w2 h
      obtain ⟨b, rfl, h2⟩ := EncOn.new h
      have E2 := Lib.hid (EncOff.of (EncOn.from B1.out h2) (fun _ => False) (fun _ h => h.elim))
      clear h h2 B1
      go_wp2_with fail
      refine (refNew_as _).mono ?_
      rintro e w3 ⟨g, n, c, rfl, hg3, hR3, hb3⟩
      have P3 := Lib.hid (PS.start (b := b) E2.out hg3 hR3 hb3 hR3.lt)
      clear hg3 hR3 hb3 E2
      unfold refV
      go_wp2
      obtain ⟨bx, hbx⟩ : ∃ bx, w3.heap.size = bx := ⟨_, rfl⟩
      rw [hbx] at P3 ⊢
      go_loopw [8] (fun i wr => ∃ (k g n c : Nat) (x : St), k ≤ n1 ∧ i = .int .i64 k ∧ x.ok ∧ x.g ≤ 2 * k ∧ PS W b size bx g n c x x wr) (fun i _ => n1 - (intOf i).toNat)
      case atStart => exact ⟨0, g, n, c, St.new, Nat.zero_le _, rfl, new_ok, Nat.le_refl _, P3.out⟩
      case round =>
        obtain ⟨k, g, n, c, x, hk, rfl, hx, hxg, hP⟩ := hrel
        have P := Lib.hid hP
        clear hP P3 hbx
        by_cases hlt : k < n1
        · obtain ⟨g1, o1, rfl, htr⟩ := S1.out.2.2 (by omega)
          have HT := Lib.hid (fun w' (hb : Below W.heap.size W w') => ((htr k hlt).below (hb.mono (Nat.le_refl _)) : TrAt w' g1 (o1 + k * 3) (f1 k)))
          have hfit := F1.out k hlt
          obtain ⟨X, hX⟩ : ∃ X, f1 k = X := ⟨_, rfl⟩
          rw [hX] at HT hfit
          have HFIT := Lib.hid hfit
          have HXOK := Lib.hid hx
          clear htr hX
          by_cases his : X.is
          · obtain ⟨C, hC, e1, e2, e3⟩ := Tr.cell his
            have HD := Lib.hid (decide_eq_true his)
            obtain ⟨i1, i2, i3, i4, i5⟩ := id his
            obtain ⟨d0, d1, d2⟩ := HT.out wr P.out.out
            obtain ⟨SS, VV, TT⟩ := X
            dsimp only at e1 e2 e3 i1 i2 i3 i4 i5 d0 d1 d2
            have HC := Lib.hid hC
            have HE := Lib.hid (⟨e1, e2, e3⟩ : (C.s : Int) = SS ∧ (C.w : Int) = VV ∧ (C.t : Int) = TT)
            have i6 : SS < 1099511627776 := by omega
            have i7 : VV < 1099511627776 := by omega
            clear his hC e1 e2 e3 hfit hx
            go_wp2_with fail
            go_still_tail 16, (by kernel_rfl)
            go_wp2_with fail
            refine (put_ps W _ b size bx g n c x x C SS VV TT (P.out.below (Below.refl _ _).drew) HXOK.out HC.out HE.out.1 HE.out.2.1 HE.out.2.2 hs4 (by omega)).mono ?_
            rintro e w4 ⟨rfl, h4⟩
            have P4 := Lib.hid h4
            obtain ⟨d0, d1, d2⟩ := HT.out w4 h4.out
            dsimp only at d0 d1 d2
            clear h4 P
            go_wp2_with fail
            refine (refIs_as ⟨SS, VV, TT⟩ _ i6 i7 HFIT.out).mono ?_
            rw [HD.out]
            rintro e w5 ⟨rfl, h5⟩
            have P5 := Lib.hid (P4.out.below h5)
            clear h5 P4
            go_upto_region 15 with fail
            obtain ⟨d0, d1, d2⟩ := HT.out w5.drew (P5.out.out.drew)
            dsimp only at d0 d1 d2
            have r0 : w5.drew.cell? ⟨bx, 0, none⟩ = some (.slice (some ⟨g, 0, none⟩) n c) := P5.out.row.cell 0
            have r1 : w5.drew.cell? ⟨bx, 1, none⟩ = some (.int .i64 x.r) := P5.out.row.cell 1
            go_still_tail 5, (by kernel_rfl)
            go_wp2_with fail
            refine (refPut_at g n c x C x.r SS VV TT _ rfl HE.out.1 HE.out.2.1 HE.out.2.2 (P5.out.ref.below (Below.refl _ _).drew) HXOK.out HC.out (by omega)).mono ?_
            rintro e w6 ⟨g2, n2, c2, rfl, hg6, hR6, hb6⟩
            have HN6 := Lib.hid ((P5.out.below (Below.refl _ _).drew).next hg6 hR6 hb6)
            have HY := Lib.hid (put_ok HXOK.out HC.out)
            have hyg := put_g HXOK.out HC.out
            have hy2 := HY.out.2.1
            obtain ⟨y, hy⟩ : ∃ y, x.put C = y := ⟨_, rfl⟩
            rw [hy] at HN6 HY hyg hy2
            have hyk : y.g ≤ 2 * (k + 1) := by omega
            rw [hy]
            clear hg6 hR6 hb6 hy r0 r1 d0 d1 d2
            unfold refV
            go_wp2_with (refine wpList_store_row rfl 48 _ _ rfl bx #[.slice (some ⟨g2, 0, none⟩) n2 c2, .int .i64 y.r] rfl rfl _ _ HN6.out.1 (by kernel_rfl) rfl (one_ref _ _ _ _) ?_)
            have P6 := Lib.hid HN6.out.2
            clear HN6 P5
            revert P6
            generalize w6.setRow bx #[.slice (some ⟨g2, 0, none⟩) n2 c2, .int .i64 y.r] = w8
            intro P6
            have hu : ∃ u, y.used = u := ⟨_, rfl⟩
            obtain ⟨u, hu⟩ := hu
            have HU := Lib.hid hu
            have r0 : w8.drew.cell? ⟨bx, 0, none⟩ = some (.slice (some ⟨g2, 0, none⟩) n2 c2) := P6.out.row.cell 0
            have r1 : w8.drew.cell? ⟨bx, 1, none⟩ = some (.int .i64 y.r) := P6.out.row.cell 1
            clear hu
            simp only [Act.put]
            go_cut [108] (fun s wx => s = .bool false ∧ PS W b size bx g2 n2 c2 y y wx)
            case first =>
              go_region_held3 (fun w' => w'.cell? ⟨bx, 0, none⟩ = some (.slice (some ⟨g2, 0, none⟩) n2 c2) ∧ w'.cell? ⟨bx, 1, none⟩ = some (.int .i64 y.r)) (first | assumption | exact ⟨P6.out.row.cell 0, P6.out.row.cell 1⟩ | exact ⟨P7.out.row.cell 0, P7.out.row.cell 1⟩) (first
                | (go_at_call 13; refine (used_ps W _ b size bx g2 n2 c2 y y u (by first | exact P7.out | exact P6.out | exact P6.out.below (Below.refl _ _).drew) hy2 (by omega) HU.out).mono ?_; rintro e w9 ⟨rfl, h9⟩
                   have P7 := Lib.hid ((show PS W b size bx g2 n2 c2 y y _ by first | exact P7.out | exact P6.out | exact P6.out.below (Below.refl _ _).drew).below h9)
                   clear h9)
                | (go_at_call 25; refine (refUsed_at g2 n2 c2 y y.r u _ rfl P6.out.ref.n_eq hy2 (by omega) HU.out).mono ?_; rintro e w9 ⟨rfl, h9⟩
                   have P7 := Lib.hid ((show PS W b size bx g2 n2 c2 y y _ by first | exact P7.out | exact P6.out | exact P6.out.below (Below.refl _ _).drew).below h9)
                   clear h9))
              all_goals go_wp2
              all_goals go_meet
              all_goals exact ⟨by first | rfl | simp, P7.out⟩
            case rest =>
              obtain ⟨rfl, hP8⟩ := hcut
              have P8 := Lib.hid hP8
              clear hP8 P6
              go_wp2
              go_roundw
              case rel => exact ⟨k + 1, g2, n2, c2, y, by omega, by go_num, HY.out, hyk, P8.out⟩
              case measure => simp [intOf]; omega
          · have HD := Lib.hid (decide_eq_false his)
            obtain ⟨d0, d1, d2⟩ := HT.out wr P.out.out
            obtain ⟨SS, VV, TT⟩ := X
            have HNO := Lib.hid (show ¬ (1 ≤ TT ∧ TT ≤ 32768 ∧ 0 ≤ SS ∧ 1 ≤ VV ∧ SS + VV ≤ TT) from his)
            have f1 : SS ≤ 9223372036854775807 := hfit.1.2
            have hx2 := hx.2.1
            dsimp only at d0 d1 d2
            clear his hfit hx
            go_wp2_with fail
            go_still_tail 16, (by kernel_rfl)
            go_wp2_with fail
            refine (put_no _ (some ⟨b, 0, none⟩) SS VV TT f1 (.inr HNO.out)).mono ?_
            rintro e w4 ⟨rfl, rfl⟩
            have P4 := Lib.hid (P.out.below (Below.refl _ _).drew)
            revert P4
            generalize wr.drew = w4
            intro P4
            obtain ⟨d0, d1, d2⟩ := HT.out w4 P4.out.out
            dsimp only at d0 d1 d2
            clear P
            go_upto_region 11 with fail
            go_cut [10] (fun s wx => s = .bool false ∧ PS W b size bx g n c x x wx)
            case first =>
              by_cases i6 : SS < 1099511627776
              · by_cases i7 : VV < 1099511627776
                · go_wp2_with fail
                  refine (refIs_as ⟨SS, VV, TT⟩ _ i6 i7 HFIT.out).mono ?_
                  rw [HD.out]
                  rintro e w5 ⟨rfl, h5⟩
                  have P5 := Lib.hid (P4.out.below h5)
                  clear h5 P4
                  go_wp2
                  go_meet
                  exact ⟨rfl, P5.out⟩
                · go_wp2
                  go_meet
                  exact ⟨by first | rfl | (simp; omega), P4.out⟩
              · go_wp2
                go_meet
                exact ⟨by first | rfl | (simp; omega), P4.out⟩
            case rest =>
              obtain ⟨rfl, hP5⟩ := hcut
              have P6 := Lib.hid hP5
              clear hP5 P4 d0 d1 d2
              have hu : ∃ u, x.used = u := ⟨_, rfl⟩
              obtain ⟨u, hu⟩ := hu
              have HU := Lib.hid hu
              revert P6
              generalize hw8 : wc = w8
              intro P6
              have r0 : w8.drew.cell? ⟨bx, 0, none⟩ = some (.slice (some ⟨g, 0, none⟩) n c) := P6.out.row.cell 0
              have r1 : w8.drew.cell? ⟨bx, 1, none⟩ = some (.int .i64 x.r) := P6.out.row.cell 1
              clear hu hw8
              go_upto_region 16 with fail
              go_cut [108] (fun s wx => s = .bool false ∧ PS W b size bx g n c x x wx)
              case first =>
                go_region_held3 (fun w' => w'.cell? ⟨bx, 0, none⟩ = some (.slice (some ⟨g, 0, none⟩) n c) ∧ w'.cell? ⟨bx, 1, none⟩ = some (.int .i64 x.r)) (first | assumption | exact ⟨P6.out.row.cell 0, P6.out.row.cell 1⟩ | exact ⟨P9.out.row.cell 0, P9.out.row.cell 1⟩) (first
                  | (go_at_call 13; refine (used_ps W _ b size bx g n c x x u (by first | exact P9.out | exact P6.out | exact P6.out.below (Below.refl _ _).drew) hx2 (by omega) HU.out).mono ?_; rintro e w9 ⟨rfl, h9⟩
                     have P9 := Lib.hid ((show PS W b size bx g n c x x _ by first | exact P9.out | exact P6.out | exact P6.out.below (Below.refl _ _).drew).below h9)
                     clear h9)
                  | (go_at_call 25; refine (refUsed_at g n c x x.r u _ rfl P6.out.ref.n_eq hx2 (by omega) HU.out).mono ?_; rintro e w9 ⟨rfl, h9⟩
                     have P9 := Lib.hid ((show PS W b size bx g n c x x _ by first | exact P9.out | exact P6.out | exact P6.out.below (Below.refl _ _).drew).below h9)
                     clear h9))
                all_goals go_wp2
                all_goals go_meet
                all_goals exact ⟨by first | rfl | simp, P9.out⟩
              case rest =>
                obtain ⟨rfl, hP10⟩ := hcut
                have P10 := Lib.hid hP10
                clear hP10 P6
                go_wp2
                go_roundw
                case rel => exact ⟨k + 1, g, n, c, x, by omega, by go_num, HXOK.out, by omega, P10.out⟩
                case measure => simp [intOf]; omega
        · obtain rfl : k = n1 := by omega
          have hx2 := hx.2.1
          obtain ⟨t, ht⟩ : ∃ t : ByteArray, ⟨(x.out size).toArray⟩ = t := ⟨_, rfl⟩
          have HTT := Lib.hid ht
          obtain ⟨z, hz⟩ : ∃ z : Int, x.err size = z := ⟨_, rfl⟩
          have HZ := Lib.hid hz
          obtain ⟨D, hD⟩ : ∃ D, decide (x.trim.length ≤ size) = D := ⟨_, rfl⟩
          have HD := Lib.hid hD
          have hcase : (D = true ∧ z = 0) ∨ (D = false ∧ z = 5) := by
            rw [← hD, ← hz]
            unfold St.err
            by_cases h : x.trim.length ≤ size
            · rw [if_pos h]; exact .inl ⟨decide_eq_true h, rfl⟩
            · rw [if_neg h]; exact .inr ⟨decide_eq_false h, rfl⟩
          clear ht hz hD hx hlt hk
          go_wp2_with fail
          refine (done_ps W _ b size bx g n c x x t z P.out hs4 HTT.out HZ.out).mono ?_
          rintro e w5 ⟨rfl, h5⟩
          have P5 := Lib.hid h5
          have r0 : w5.cell? ⟨bx, 0, none⟩ = some (.slice (some ⟨g, 0, none⟩) n c) := P5.out.row.cell 0
          have r1 : w5.cell? ⟨bx, 1, none⟩ = some (.int .i64 x.r) := P5.out.row.cell 1
          clear h5 P
          go_wp2_with fail
          refine (refDone_at g n c x x.r size size t D _ rfl rfl HTT.out HD.out P5.out.ref (by omega) hs4).mono ?_
          rintro e w6 ⟨rfl, h6⟩
          have B6 := Lib.hid (below_trans P5.out.out h6 P5.out.out.size)
          clear h6 P5 r0 r1
          rcases hcase with ⟨rfl, rfl⟩ | ⟨rfl, rfl⟩
          all_goals
            go_wp2
            go_ret
            exact ⟨by first | rfl | simp, B6.out⟩

    · have hcase : a0 < 1 ∨ 4096 < a0 := by omega
      have HN := Lib.hid hsz
      clear hsz
      rcases hcase with hc | hc
      all_goals
        go_enter Tryd.func5, Tryd.ntmps5
        go_wp2_with fail
        refine (awake_yes _).mono ?_
        rintro e w1 ⟨rfl, h1⟩
        have B1 := Lib.hid h1
        clear h1
        go_wp2_with fail
        refine (newEnc_no a0 _ HN.out).mono ?_
        rintro e w2 ⟨rfl, rfl⟩
        go_wp2
        go_ret
        exact ⟨rfl, B1.out⟩
end Go.Proofs.YtnlfbndemajkaaaDoor.Rg
