/- The statement FragLong, on what is asked of Cut, Take, Begun alone. -/
import Derived.Test.YtmaelcjmojhlpaaFgLg
import Derived.Deep.DeepCutAuto
set_option maxRecDepth 100000
set_option linter.unusedVariables false
set_option linter.unusedSimpArgs false
namespace Go.Proofs.Ytmaelcjmojhlpaa.Fg
open Go.RowKit Go.Proofs.Ytmaelcjmojhlpaa.Row Go.Proofs.Ytmaelcjmojhlpaa.Pa

set_option maxHeartbeats 8000000 in
theorem long_all {JI : World → Nat → (Nat → Prop) → Jn → Prop} {Z : Array Value} (HJ : Joins JI Z) (HC : CutYes) (HG : PagesAs) (e : Nat) (f : UInt8) (w : World) (he : e < 4294967296) :
    Calls Try.prog 7 #[.int .u32 e, .int .u8 (f.toNat : Int)] w fun en w' => en = .returned (.bool true) ∧ Below w.heap.size w w' := by
  have HAW := Lib.hid (fun w => awake_as HC HG w)
  go_enter Try.func7, Try.ntmps7
  go_wp2_with fail
  refine (HAW.out _).mono ?_
  rintro en w1 ⟨rfl, hb⟩
  have HB1 := Lib.hid hb
  clear hb
  have hmk := make_fl f w1
  have HM0 := Lib.hid (show Below w.heap.size w (w1.alloc (.cells (bl (fl f 0)) 5)) ∧ At (w1.alloc (.cells (bl (fl f 0)) 5)) w1.heap.size (bl (fl f 0)) 5 from ⟨HB1.out.alloc HB1.out.size _, At.new _ _ _⟩)
  have HG1 := Lib.hid HB1.out.size
  go_wp2_with fail
  revert HM0
  generalize World.alloc _ _ = w2
  generalize w1.heap.size = h at HG1 ⊢
  intro HM0
  clear hmk HB1
  go_loopw [6] (fun i w' => ∃ k : Nat, i = .int .i64 k ∧ k ≤ 4096 ∧ Hid (Below w.heap.size w w' ∧ At w' h (bl (fl f k)) 5)) (fun i _ => 5000 - (intOf i).toNat)
  case atStart => exact ⟨0, rfl, Nat.zero_le _, HM0⟩
  case round =>
    obtain ⟨k, rfl, hk, HP⟩ := hrel
    clear HM0
    by_cases hlt : k < 4096
    · have hA := HP.out.2
      have c1 : wr.cell? ⟨h, k, none⟩ = some (.int .u8 (B (fl f k) k)) := by rw [cell_of_row _ _ _ _ _ _ hA, bl_at _ k (by rw [fl_len hk]; exact hlt)]
      have c2 : wr.frozen? ⟨h, k, none⟩ = false := hA.frozen k
      have hix : ∀ w, Sem.run Try.prog (Instr.indexAt 30 (.slice (some ⟨h, 0, none⟩) 4096 4096) (.int .i64 (k : Int))) w = .ok (.pointer (some ⟨h, k, none⟩)) w := fun w => by
        have := run_ex (n := 4096) (c := 4096) (g := h) (o := 0) (k := k) elt_u8 hlt w
        rwa [Nat.zero_add, Nat.mul_one] at this
      have HN := Lib.hid (show Below w.heap.size w (wr.setCell ⟨h, k, none⟩ (.int .u8 (f.toNat : Int))) ∧ At (wr.setCell ⟨h, k, none⟩ (.int .u8 (f.toNat : Int))) h (bl (fl f (k + 1))) 5 from
        ⟨HP.out.1.setCell HG1.out _, by rw [← fl_put hlt, ← bl_set]; exact At.setCell hA⟩)
      have fl8 := f.toNat_lt
      clear hA HP
      go_wp2_with fail
      go_roundw
      case rel => exact ⟨k + 1, by go_num, by omega, HN⟩
      case measure => simp [intOf]; omega
    · obtain rfl : k = 4096 := by omega
      rw [fl_all] at HP
      obtain ⟨r, hr⟩ : ∃ r, List.replicate 4096 f = r := ⟨_, rfl⟩
      rw [hr] at HP
      have hrl : r.length = 4096 := by rw [← hr, List.length_replicate]
      have HRL := Lib.hid hrl
      clear hr
      have hrr : (r.drop 0).take 4096 = r := by rw [List.drop_zero]; exact List.take_of_length_le (by omega)
      have hcv := conv_bl HP.out.2 0 4096 4096 (by rw [hrl]; omega)
      rw [hrr] at hcv
      have hnp : np r.length = 84 := by rw [hrl]; rfl
      have HCY := Lib.hid (HC e r wr he (by omega) (by omega))
      rw [hnp] at HCY
      have HNP := Lib.hid hnp
      clear hnp hrl
      rw [show ((4096 : Nat) : Int) = 4096 from rfl]
      obtain ⟨R, hR⟩ : ∃ R : ByteArray, tx r = R := ⟨_, rfl⟩
      have hR' : (⟨r.toArray⟩ : ByteArray) = R := hR
      rw [hR'] at hcv
      rw [hR] at HCY
      have HR := Lib.hid hR
      have HRA := Lib.hid hR'
      clear hR hR'
      go_wp2_with fail
      refine HCY.out.mono ?_
      rintro en w3 ⟨a1, c1, rfl, he1, hb⟩
      obtain ⟨g, rfl, hg1, hg2⟩ := he1.addr (by omega)
      have HB3 := Lib.hid (below_trans HP.out.1 hb HP.out.1.size)
      have HA3 := Lib.hid (HP.out.2.below hb HP.out.2.lt)
      have HE3 := Lib.hid (he1.wide HP.out.1.size)
      clear he1 hb hcv
      have hbz := HJ.bz
      have hb4 : Below w3.heap.size w3 (w3.alloc (.cells Z 32)) := (Below.refl _ _).alloc (Nat.le_refl _) _
      have HL0 := Lib.hid (show LgI JI w e r g h 84 c1 w3.heap.size none (w3.alloc (.cells Z 32)) from
        ⟨JkI.new HJ HB3.out (fun q hq => by rcases hq with rfl | rfl; exact hg2; exact HA3.out.lt), HE3.out.below hb4, HA3.out.below hb4 HA3.out.lt⟩)
      clear hb4 hg1 hg2 HB3 HA3 HE3 HP
      go_wp2_with (first
        | (refine wpList_build_parts (by rfl) 32 [] rfl _ rfl hbz ?_)
        | fail)
      revert HL0
      generalize World.alloc _ _ = w4
      generalize w3.heap.size = b
      intro HL0
      go_loopw [10] (fun i w' => ∃ k : Nat, i = .int .i64 k ∧ k ≤ 84 ∧ Hid (LgI JI w e r g h 84 c1 b (jn e r k) w')) (fun i _ => 200 - (intOf i).toNat)
      case atStart => exact ⟨0, rfl, Nat.zero_le _, HL0⟩
      case round =>
        obtain ⟨k, rfl, hk, HP⟩ := hrel
        clear HL0
        by_cases hlt : k < 84
        · have hk1 : (k : Int) < 200 := by omega
          have hkn : k < np r.length := by rw [HNP.out]; exact hlt
          have hr4 : r.length ≤ 4096 := by rw [HRL.out]; omega
          have hix := fun w => run_ex (n := 84) (c := c1) (g := g) (o := 0) (k := k) elt_p hlt w
          rw [Nat.zero_add] at hix
          have hpl := Nat.le_trans (pc_len (e := e) hkn).2 (show 49 ≤ maxLen by decide)
          have htk := take_lg HJ HP.out (pc e r k) (pc_ok he) hpl wf_2
          rw [terr_pc hr4 hkn, ended_pc hr4 hkn, jn_next hr4 hkn, HNP.out] at htk
          have hrg := HP.out.2.1.range hlt
          by_cases hD : k + 1 = 84
          · rw [told_end (e := e) hr4 hkn (by rw [HNP.out]; exact hD), decide_eq_true hD, HR.out] at htk
            have HTK := Lib.hid htk
            have hkN : ((k : Int) == 83) = true := by rw [beq_iff_eq]; omega
            clear htk hpl hkn hD
            go_wp2_with (first
              | (refine wpList_load_range (by rfl) 36 _ rfl g (k * 6) rfl hrg Try.underlying36 rfl (info_pg rfl) ?_)
              | fail)
            refine HTK.out.mono ?_
            rintro en w5 ⟨rfl, h5⟩
            have H5 := Lib.hid h5
            have hcv := conv_bl h5.2.2 0 4096 4096 (by rw [HRL.out]; omega)
            rw [hrr, HRA.out] at hcv
            clear h5 hrg HTK
            go_wp2_with fail
            go_roundw
            case rel => exact ⟨k + 1, by go_num, by omega, H5⟩
            case measure => simp [intOf]; omega
          · rw [told_mid (e := e) hr4 hkn (by rw [HNP.out]; exact hD), decide_eq_false hD] at htk
            have HTK := Lib.hid htk
            have hkN : ((k : Int) == 83) = false := by rw [beq_eq_false_iff_ne]; omega
            clear htk hpl hkn hD
            go_wp2_with (first
              | (refine wpList_load_range (by rfl) 36 _ rfl g (k * 6) rfl hrg Try.underlying36 rfl (info_pg rfl) ?_)
              | fail)
            refine HTK.out.mono ?_
            rintro en w5 ⟨rfl, h5⟩
            have H5 := Lib.hid h5
            have hcv := conv_bl h5.2.2 0 4096 4096 (by rw [HRL.out]; omega)
            rw [hrr, HRA.out] at hcv
            clear h5 hrg HTK
            go_wp2_with fail
            go_roundw
            case rel => exact ⟨k + 1, by go_num, by omega, H5⟩
            case measure => simp [intOf]; omega
        · obtain rfl : k = 84 := by omega
          rw [← HNP.out, jn_end, HNP.out] at HP
          have HIB := Lib.hid HP.out
          clear HP
          have hb5 : Below wr.heap.size wr (wr.alloc (.cells Z 32)) := (Below.refl _ _).alloc (Nat.le_refl _) _
          have HL1 := Lib.hid (show LgI JI w e r g h 84 c1 wr.heap.size none (wr.alloc (.cells Z 32)) from
            ⟨JkI.new HJ HIB.out.1.1 (fun q hq => by rcases hq with rfl | rfl; exact (HIB.out.2.1.block _ rfl).2; exact HIB.out.2.2.lt), HIB.out.2.1.below hb5, HIB.out.2.2.below hb5 HIB.out.2.2.lt⟩)
          clear hb5
          rw [show ((84 : Nat) : Int) = 84 from rfl]
          go_wp2_with (first
            | (refine wpList_build_parts (by rfl) 32 [] rfl _ rfl hbz ?_)
            | fail)
          revert HL1
          generalize World.alloc _ _ = w6
          generalize wr.heap.size = b2
          intro HL1
          clear HIB
          have hzp := zero_pg
          obtain ⟨T, hT⟩ : ∃ T, pgV Pv.zero = T := ⟨_, rfl⟩
          have HTS := Lib.hid (show T.size = 6 by rw [← hT]; rfl)
          rw [hT] at hzp
          clear hT
          go_loopw [15] (fun i w' => ∃ k : Nat, i = .int .i64 k ∧ k ≤ 84 ∧ Hid (LgI JI w e r g h 84 c1 b2 (jl e r k) w')) (fun i _ => 200 - (intOf i).toNat)
          case atStart => exact ⟨0, rfl, Nat.zero_le _, HL1⟩
          case round =>
            obtain ⟨k, rfl, hk, HP⟩ := hrel
            clear HL1
            by_cases hlt : k < 84
            · have hk1 : (k : Int) < 200 := by omega
              have hkn : k < np r.length := by rw [HNP.out]; exact hlt
              have hr4 : r.length ≤ 4096 := by rw [HRL.out]; omega
              have hix := fun w => run_ex (n := 84) (c := c1) (g := g) (o := 0) (k := k) elt_p hlt w
              rw [Nat.zero_add] at hix
              have hpl := Nat.le_trans (pc_len (e := e) hkn).2 (show 49 ≤ maxLen by decide)
              have hrg := HP.out.2.1.range hlt
              obtain ⟨j1, j2, j3, j4⟩ := jl_next (e := e) hr4 hkn
              obtain ⟨V, hV⟩ : ∃ V, pcs e r k = V := ⟨_, rfl⟩
              have HVS := Lib.hid (show V.size = 6 by rw [← hV]; rfl)
              have HV1 := Lib.hid (show V.all (·.oneCell') = true by rw [← hV]; exact pgV_one _)
              have HVF := Lib.hid (show V.setIfInBounds 4 (.bool false) = pgV (pl e r k) by rw [← hV]; rfl)
              rw [hV] at hrg
              clear hV
              have hb6 : Below wr.heap.size wr (wr.alloc (.cells (V.setIfInBounds 4 (.bool false)) 36)) := (Below.refl _ _).alloc (Nat.le_refl _) _
              have hA6 : At (wr.alloc (.cells (V.setIfInBounds 4 (.bool false)) 36)) wr.heap.size (pgV (pl e r k)) 36 := by
                rw [← HVF.out]; exact At.new _ _ _
              have HA6 := Lib.hid hA6
              have htk := take_lg HJ (LgI.next HJ HP.out hb6) (pl e r k) (pl_ok he) hpl wf_2
              rw [j1, j2, j3, j4] at htk
              have HTK := Lib.hid htk
              have hcc : (wr.alloc (.cells V 36)).cell? ⟨wr.heap.size, 4, none⟩ = V[4]? := cell_of_row _ _ _ _ _ _ (heap_alloc_new _ _)
              have hfr : (wr.alloc (.cells V 36)).frozen? ⟨wr.heap.size, 4, none⟩ = false := (At.new wr V 36).frozen 4
              obtain ⟨v4, hv4⟩ : ∃ v4, V[4]? = some v4 := ⟨_, Array.getElem?_eq_getElem (by have := HVS.out; omega)⟩
              rw [hv4] at hcc
              clear hb6 hA6 htk j1 j2 j3 j4 hpl hkn hv4
              go_upto_region 21 with (first
                | (refine wpList_load_range (by rfl) 36 _ rfl g (k * 6) rfl hrg Try.underlying36 rfl (info_pg HVS.out) ?_)
                | (refine wpList_store_row rfl 36 _ _ rfl wr.heap.size V rfl rfl _ _ (heap_alloc_new _ _) (info_pg HVS.out) (by rw [HVS.out, HTS.out]) HV1.out ?_)
                | fail)
              rw [World.setRow_alloc_new]
              go_wp2_with (first
                | (refine wpList_load_w (by rfl) 36 _ rfl _ rfl HA6.out Try.underlying36 rfl (info_pg rfl) ?_)
                | fail)
              refine HTK.out.mono ?_
              rintro en w7 ⟨rfl, h7⟩
              have H7 := Lib.hid h7
              clear h7 HTK hcc hfr hrg
              go_wp2_with fail
              go_roundw
              case rel => exact ⟨k + 1, by go_num, by omega, H7⟩
              case measure => simp [intOf]; omega
            · obtain rfl : k = 84 := by omega
              obtain ⟨b1, b2'⟩ := px_bad (e := e) HRL.out
              obtain ⟨j1, j2, j3, j4⟩ := jt_bad (px_right e) b1 b2'
              have htk := take_lg HJ HP.out (px e) ⟨he, by show 0 < 4294967296; omega⟩ (by show 1 ≤ maxLen; decide) wf_2
              rw [j1, j2, j3, j4] at htk
              have HTK := Lib.hid htk
              have hbx := built_x e
              clear htk j1 j2 j3 j4 b1 b2' hzp
              rw [show ((84 : Nat) : Int) = 84 from rfl]
              go_wp2_with (first
                | (refine wpList_build_parts (by rfl) 36 [(0, _), (2, _), (5, _)] rfl _ rfl hbx ?_)
                | fail)
              refine HTK.out.mono ?_
              rintro en w7 ⟨rfl, h7⟩
              have HBG := Lib.hid (begun_jk HJ h7.1)
              clear h7 HTK
              go_wp2_with fail
              refine HBG.out.mono ?_
              rintro en w8 ⟨rfl, h8⟩
              have HB8 := Lib.hid h8.1
              clear h8
              go_wp2_with fail
              go_ret
              exact ⟨rfl, HB8.out⟩
end Go.Proofs.Ytmaelcjmojhlpaa.Fg
