/- Texts of the walk, one behind the other. -/
import Derived.Test.YtbbeekpndhfpjaaSegLastsM16
import Derived.Test.YtbbeekpndhfpjaaSegLastsM15

section
/- SegLasts: whatever befalls a log: what was synced is scanned, whatever is kept of the rest; of the rest a beginning; to open twice is as to open once. -/
set_option maxRecDepth 100000
set_option linter.unusedVariables false
set_option linter.unusedSimpArgs false
namespace Go.Proofs.Ytbbeekpndhfpjaa.Sg
open Go.RowKit Go.Proofs.Ytbbeekpndhfpjaa.Row Go.Proofs.Ytbbeekpndhfpjaa.Pa Go.Proofs.Ytbbeekpndhfpjaa.Fg Go.Proofs.Ytbbeekpndhfpjaa.Dk
variable {LI : World → Nat → (Nat → Prop) → Nat → Lg → Prop}

set_option maxHeartbeats 16000000 in
theorem lasts_few (HC : ScanAs) (HS : Segs LI) (sg : Nat) (a0 : Option Addr) (n c0 : Nat) (A : Nat → Ac9) (w : World) (hA : SlA9 w a0 n c0 A) (hsg : sg < 256) :
    Calls Try.prog 3 #[.int .u8 sg, .slice a0 n c0] w fun e w' => e = .returned (.bool true) ∧ Below w.heap.size w w' := by
  have HA := Lib.hid hA
  have HAW := Lib.hid (fun w => awake_as HC HS w)
  have HFW := Lib.hid (fun w' (hb : Below w.heap.size w w') => few_as w' a0 n c0 A (hA.below hb))
  obtain ⟨ns, hns⟩ : ∃ ns, 16 * (2 + sg % 4) = ns := ⟨_, rfl⟩
  have hns1 : 32 ≤ ns ∧ ns ≤ 80 ∧ ns % 16 = 0 := by omega
  have e0 : 16 * (2 + (sg : Int) % 4) = ns := by omega
  have HNW := Lib.hid (fun w0 w (hb : Below w0.heap.size w0 w) => new_L (w0 := w0) (w := w) (G := None) ns (by omega) (by omega) hb (fun _ h => h.elim))
  have hz := zero_act
  clear hA hns
  go_enter Try.func3, Try.ntmps3
  go_wp2_with fail
  refine (HAW.out _).mono ?_
  rintro e w1 ⟨rfl, hb1⟩
  have HB1 := Lib.hid hb1
  clear hb1
  go_wp2_with fail
  refine (HFW.out _ HB1.out).mono ?_
  rintro e w2 ⟨bb, rfl, rfl, hbb⟩
  have HBB := Lib.hid hbb
  clear hbb HFW
  cases bb with
  | false =>
    go_wp2_with fail
    refine (HAW.out _).mono ?_
    rintro e w3 ⟨rfl, hb3⟩
    have HB3 := Lib.hid (below_trans HB1.out hb3 HB1.out.size)
    clear hb3
    go_wp2
    go_ret
    exact ⟨rfl, HB3.out⟩
  | true =>
    obtain ⟨hn30, hfew⟩ := HBB.out rfl
    have HFEW := Lib.hid hfew
    clear HBB HAW hfew
    go_wp2_with fail
    refine (HNW.out w _ HB1.out).mono ?_
    rintro e w3 ⟨bd, rfl, hd3, _⟩
    have HD3 := Lib.hid hd3
    clear hd3 HNW HB1 e0
    go_wp2_with fail
    refine (open_new HS HD3.out (n := ns) (by omega) (by omega) (by omega) (by omega) (Like.refl _)).mono ?_
    rintro e w4 ⟨b, a4, c4, R4, d4, rfl, hl4, hd4, _⟩
    have HI := Lib.hid (show LstI LI w bd ns (1000 + 2000 * 0) 0 b none 0 0 0 w4 from ⟨_, _, [], (hd4.sub (H := OwnT none 0 0) fun k hk => by cases hk).mono (by omega), On.new hl4 (by omega), Nat.le_refl _, ⟨rfl, Els.nil _ _ _ _ _⟩, Nat.le_refl 0⟩)
    clear hd4 hl4 HD3
    go_wp2_with fail
    go_loopw [7, 10, 11, 12] (fun g l s i w' => ∃ (b : Nat) (a : Option Addr) (m c su k : Nat), g = .pointer (some ⟨b, 0, none⟩) ∧ l = .slice a m c ∧ s = .int .i64 su ∧ i = .int .i64 k ∧ k ≤ n ∧ Hid (LstI LI w bd ns (1000 + 2000 * k) k b a m c su w')) (fun _ _ _ i _ => 1000 - (intOf i).toNat)
    case atStart => exact ⟨b, none, 0, 0, 0, 0, rfl, rfl, rfl, rfl, Nat.zero_le _, HI⟩
    case round =>
      obtain ⟨b, a, m, c, su, k, rfl, rfl, rfl, rfl, hk, hI⟩ := hrel
      clear HI
      obtain ⟨d, x, all, q1, q2, q3, q4, q5⟩ := hI.out
      clear hI
      by_cases hlt : k < n
      · have k1 : decide ((k : Int) < (n : Int)) = true := decide_eq_true (by omega)
        obtain ⟨g, o, hg, hat⟩ := (HA.out.below q1.below.1).2.2.2 (by omega)
        have rx := run_ex (g := g) (o := o) (n := n) (c := c0) elt_a9 hlt
        subst hg
        have hacat := hat k hlt
        obtain ⟨z0, hz0, hzB⟩ : ∃ z : Ac9, A k = z ∧ SlB w z.ka z.kn z.kc z.kf := ⟨_, rfl, by
          obtain ⟨_, _, _, h4⟩ := HA.out
          obtain ⟨_, _, _, h5⟩ := h4 (by omega)
          exact (h5 k hlt).2.2.2.2⟩
        have hzok := HA.out.2.2.1 k hlt
        have hzf := HFEW.out k hlt
        rw [hz0] at hacat hzok hzf
        obtain ⟨op, X, ka, kn, kc, kf, pl⟩ := z0
        dsimp only at hzB hzf
        obtain ⟨hop8, hpl8, hXl⟩ := hzok
        dsimp only at hop8 hpl8 hXl
        obtain ⟨r, hr⟩ : ∃ r, X = tx r := ⟨X.data.toList, rfl⟩
        have hrl : r.length ≤ 5000 := by have := hzf.1; rw [hr, tx_size] at this; exact this
        have HRG := Lib.hid (show wr.rangeAt g (o + k * 4) (acV op (tx r) ka kn kc pl).toList by rw [← hr]; exact range_ac9 hacat)
        have HKB := Lib.hid hzB
        have HQ := Lib.hid (And.intro q1 (And.intro q2 (And.intro q3 (And.intro q4 q5))))
        clear hat hacat hz0 hzB hzf hXl hr q1 q2 q3 q4 q5
        obtain ⟨q, hq⟩ : ∃ q, wr.heap.size = q := ⟨_, rfl⟩
        have HZ0 := Lib.hid (show At (wr.alloc (.cells zA9 36)) q zA9 36 by rw [← hq]; exact At.new _ _ _)
        have HBX := Lib.hid (show At ((wr.alloc (.cells zA9 36)).setRow q (acV op (tx r) ka kn kc pl)) q (acV op (tx r) ka kn kc pl) 36 from HZ0.out.setRow)
        have HL1 := Lib.hid (show LgL LI w bd (1000 + 2000 * k) d b x (fun j => OwnT a m c j ∨ j = q) ((wr.alloc (.cells zA9 36)).setRow q (acV op (tx r) ka kn kc pl)) from
          (HQ.out.1.own HS (((Fr.refl _ _).alloc (.cells zA9 36)).setRow (.inr (by omega)) (acV op (tx r) ka kn kc pl))).sub fun j hj => by
            rcases hj with hj | rfl
            · exact .inl hj
            · exact .inr ⟨by omega, HBX.out.lt⟩)
        have HT1 := Lib.hid (show Txs ((wr.alloc (.cells zA9 36)).setRow q (acV op (tx r) ka kn kc pl)) w.heap.size a m c all from
          ⟨HQ.out.2.2.2.1.1, HQ.out.2.2.2.1.2.below (below_setRow' ((Below.refl _ _).alloc (Nat.le_refl _) _) (by omega) _)⟩)
        have HO := Lib.hid (And.intro HQ.out.2.1 (And.intro HQ.out.2.2.1 HQ.out.2.2.2.2))
        have hHQ2 : all.length = m := HQ.out.2.2.2.1.1
        clear HQ
        by_cases h5 : op % 8 = 5
        · have d5 : ((op : Int) % 8 == 5) = true := by rw [beq_iff_eq]; omega
          go_wp2_with (first
            | (refine wpList_load_range (by rfl) 36 _ rfl g (o + k * 4) rfl HRG.out Try.underlying36 rfl (info_act rfl) ?_)
            | (refine wpList_store_row rfl 36 _ _ rfl q (acV op (tx r) ka kn kc pl) rfl rfl _ _ HZ0.out (info_act rfl) rfl (acV_one _ _ _ _ _ _) ?_
               clear HZ0 HRG rx
               revert HT1; revert HL1; revert HBX
               generalize World.setRow _ _ _ = W1
               intro HBX HL1 HT1
               have b0 : W1.cell? ⟨q, 0, none⟩ = some (.int .u8 op) := (HBX.out.cell 0).trans rfl
               have b1 : W1.cell? ⟨q, 1, none⟩ = some (.string (tx r)) := (HBX.out.cell 1).trans rfl
               have b2 : W1.cell? ⟨q, 2, none⟩ = some (.slice ka kn kc) := (HBX.out.cell 2).trans rfl
               have b3 : W1.cell? ⟨q, 3, none⟩ = some (.int .u8 pl) := (HBX.out.cell 3).trans rfl))
          go_wp2_with fail
          refine (HS.sync _ _ _ _ _ _ _ _ HL1.out HO.out.1.1 (by omega)).mono ?_
          rintro e w6 ⟨e6, d6, x6, rfl, hr6, hL6, hk6⟩
          have hT6 := HT1.out.kp (kp_sub hk6 fun j hj => .inl hj)
          have he := HO.out.2.1
          have hl := HO.out.2.2
          rcases HO.out.1.sync hr6 with ⟨rfl, h2, h3, h4⟩ | ⟨h2, h3, h4⟩
          · have HF := Lib.hid (show LstI LI w bd ns (1000 + 2000 * k) (k + 1) b a m c m w6 from ⟨d6, x6, all, hL6.sub fun j hj => .inl hj, by rw [← hHQ2]; exact h2, by rw [h3]; omega, hT6, by omega⟩)
            clear hr6 hL6 hk6 hT6 h2 h3 h4 he hl
            go_wp2_with fail
            refine (HF.out.scan HC HS (by omega) (by omega) (by omega)).mono ?_
            rintro e w8 ⟨a8, c8, u8, v8, rfl, h8⟩
            have H8 := Lib.hid h8
            clear h8 HF
            go_wp2_with fail
            refine (H8.out.begins HS).mono ?_
            rintro e w9 ⟨rfl, h9⟩
            have HF := Lib.hid (show LstI LI w bd ns (1000 + 2000 * (k + 1)) (k + 1) b a m c m w9 from h9.mono (by omega))
            clear h9 H8
            go_wp2
            go_roundw
            case rel => exact ⟨_, _, _, _, _, k + 1, rfl, rfl, rfl, by go_num, by omega, HF⟩
            case measure => simp [intOf]; omega
          · have HF := Lib.hid (show LstI LI w bd ns (1000 + 2000 * k) (k + 1) b a m c su w6 from ⟨d6, x6, all, hL6.sub fun j hj => .inl hj, h2, by rw [h3]; omega, hT6, by omega⟩)
            have he6 : (e6 == 0) = false := by
              rw [beq_eq_false_iff_ne]
              rcases h4 with ⟨e, _⟩ | ⟨e, _⟩ <;> omega
            clear hr6 hL6 hk6 hT6 h2 h3 h4 he hl
            go_wp2_with fail
            refine (HF.out.scan HC HS (by omega) (by omega) (by omega)).mono ?_
            rintro e w8 ⟨a8, c8, u8, v8, rfl, h8⟩
            have H8 := Lib.hid h8
            clear h8 HF
            go_wp2_with fail
            refine (H8.out.begins HS).mono ?_
            rintro e w9 ⟨rfl, h9⟩
            have HF := Lib.hid (show LstI LI w bd ns (1000 + 2000 * (k + 1)) (k + 1) b a m c su w9 from h9.mono (by omega))
            clear h9 H8
            go_wp2
            go_roundw
            case rel => exact ⟨_, _, _, _, _, k + 1, rfl, rfl, rfl, by go_num, by omega, HF⟩
            case measure => simp [intOf]; omega
        · by_cases h7 : op % 8 = 7
          · have d5 : ((op : Int) % 8 == 5) = false := by rw [beq_eq_false_iff_ne]; omega
            have d7 : ((op : Int) % 8 == 7) = true := by rw [beq_iff_eq]; omega
            go_wp2_with (first
              | (refine wpList_load_range (by rfl) 36 _ rfl g (o + k * 4) rfl HRG.out Try.underlying36 rfl (info_act rfl) ?_)
              | (refine wpList_store_row rfl 36 _ _ rfl q (acV op (tx r) ka kn kc pl) rfl rfl _ _ HZ0.out (info_act rfl) rfl (acV_one _ _ _ _ _ _) ?_
                 clear HZ0 HRG rx
                 revert HT1; revert HL1; revert HBX
                 generalize World.setRow _ _ _ = W1
                 intro HBX HL1 HT1
                 have b0 : W1.cell? ⟨q, 0, none⟩ = some (.int .u8 op) := (HBX.out.cell 0).trans rfl
                 have b1 : W1.cell? ⟨q, 1, none⟩ = some (.string (tx r)) := (HBX.out.cell 1).trans rfl
                 have b2 : W1.cell? ⟨q, 2, none⟩ = some (.slice ka kn kc) := (HBX.out.cell 2).trans rfl
                 have b3 : W1.cell? ⟨q, 3, none⟩ = some (.int .u8 pl) := (HBX.out.cell 3).trans rfl))
            obtain ⟨F, hF⟩ : ∃ F, pl % 20 = F := ⟨_, rfl⟩
            have e0 : (pl : Int) % 20 = F := by omega
            have hF20 : F < 20 := by omega
            clear hF
            go_wp2_with fail
            rw [e0]
            refine (fuse_lg HS HL1.out F (WalkArith.wf_i64 (by omega))).mono ?_
            rintro e w6 ⟨rfl, hL6, hk6⟩
            have hT6 := HT1.out.kp (kp_sub hk6 fun j hj => .inl hj)
            have he := HO.out.2.1
            have hl := HO.out.2.2
            have HF := Lib.hid (show LstI LI w bd ns (1000 + 2000 * k) (k + 1) b a m c su w6 from ⟨_, x, all, hL6.sub fun j hj => .inl hj, HO.out.1.fused F, by omega, hT6, by omega⟩)
            clear hL6 hk6 hT6 he hl e0
            go_wp2_with fail
            refine (HF.out.scan HC HS (by omega) (by omega) (by omega)).mono ?_
            rintro e w8 ⟨a8, c8, u8, v8, rfl, h8⟩
            have H8 := Lib.hid h8
            clear h8 HF
            go_wp2_with fail
            refine (H8.out.begins HS).mono ?_
            rintro e w9 ⟨rfl, h9⟩
            have HF := Lib.hid (show LstI LI w bd ns (1000 + 2000 * (k + 1)) (k + 1) b a m c su w9 from h9.mono (by omega))
            clear h9 H8
            go_wp2
            go_roundw
            case rel => exact ⟨_, _, _, _, _, k + 1, rfl, rfl, rfl, by go_num, by omega, HF⟩
            case measure => simp [intOf]; omega
          · by_cases h6 : op % 8 = 6
            · have d5 : ((op : Int) % 8 == 5) = false := by rw [beq_eq_false_iff_ne]; omega
              have d7 : ((op : Int) % 8 == 7) = false := by rw [beq_eq_false_iff_ne]; omega
              have d6 : ((op : Int) % 8 == 6) = true := by rw [beq_iff_eq]; omega
              go_wp2_with (first
                | (refine wpList_load_range (by rfl) 36 _ rfl g (o + k * 4) rfl HRG.out Try.underlying36 rfl (info_act rfl) ?_)
                | (refine wpList_store_row rfl 36 _ _ rfl q (acV op (tx r) ka kn kc pl) rfl rfl _ _ HZ0.out (info_act rfl) rfl (acV_one _ _ _ _ _ _) ?_
                   clear HZ0 HRG rx
                   revert HT1; revert HL1; revert HBX
                   generalize World.setRow _ _ _ = W1
                   intro HBX HL1 HT1
                   have b0 : W1.cell? ⟨q, 0, none⟩ = some (.int .u8 op) := (HBX.out.cell 0).trans rfl
                   have b1 : W1.cell? ⟨q, 1, none⟩ = some (.string (tx r)) := (HBX.out.cell 1).trans rfl
                   have b2 : W1.cell? ⟨q, 2, none⟩ = some (.slice ka kn kc) := (HBX.out.cell 2).trans rfl
                   have b3 : W1.cell? ⟨q, 3, none⟩ = some (.int .u8 pl) := (HBX.out.cell 3).trans rfl))
              have HD1 := Lib.hid HL1.out.drop
              have HK1 := Lib.hid (HKB.out.below HL1.out.below.1)
              go_wp2_with fail
              refine (crash_L HD1.out (by omega) ka kn kc kf HK1.out fun hn b' o' e => .inl (SlB.lt HKB.out hn b' o' e)).mono ?_
              rintro e w2 ⟨rfl, hD2, hk2⟩
              have HD2 := Lib.hid hD2
              have HT2 := Lib.hid (HT1.out.kp (kp_sub hk2 fun j hj => .inl hj))
              have HG := Lib.hid (HO.out.1.gone (keepB kn kf))
              have hx := HO.out.2.1
              have hl := HO.out.2.2
              have hm64 : m ≤ 100 := by omega
              clear HD1 HK1 hD2 hk2 HL1 HT1 HO HKB HBX b0 b1 b2 b3
              go_wp2_with fail
              refine (fuse_L HD2.out (-1) (by decide)).mono ?_
              rintro e w3 ⟨rfl, hD3, hk3⟩
              have HD3 := Lib.hid hD3
              have HT3 := Lib.hid (HT2.out.kp (kp_sub hk3 fun j hj => .inl hj))
              clear HD2 HT2 hD3 hk3
              go_wp2_with fail
              refine (HS.down w w3 bd _ _ _ HD3.out (by have := HG.out.size; show 32 ≤ (d.crashed (keepB kn kf)).size; omega) rfl (by omega)).mono ?_
              rintro e w4 ⟨u4, v4, d4, rfl, hl4, hD4, hk4⟩
              have HD4 := Lib.hid hD4
              have HL4 := Lib.hid hl4
              have HT4 := Lib.hid (HT3.out.kp (kp_sub hk4 fun j hj => .inl hj))
              clear HD3 HT3 hD4 hk4 hl4
              go_wp2_with fail
              refine (up_L HD4.out).mono ?_
              rintro e w5 ⟨rfl, hD5, hk5⟩
              have hT5 := HT4.out.kp (kp_sub hk5 fun j hj => .inl hj)
              obtain ⟨l, u, v, h0, hsu, hlm, hv⟩ := Lst0.of (i := k) (n := ns) (su := su) (hD5.sub fun j hj => .inl hj) (Gone.high' ((((HG.out.as (d' := (d.crashed (keepB kn kf)).fused (-1)) rfl rfl rfl rfl rfl).like HL4.out).as (d' := d4.upped) rfl rfl rfl rfl rfl)) (by omega)) rfl hT5 hl
              have H0 := Lib.hid h0
              clear h0 HD4 HL4 HT4 hD5 hk5 hT5 HG hl hx
              go_wp2_with fail
              refine (H0.out.scan HC (by omega) (by omega) (by omega)).mono ?_
              rintro e w6 ⟨ax, cx, S6, rfl, h6, hx6, ho6, _⟩
              have H6 := Lib.hid h6
              have HX6 := Lib.hid (And.intro hx6 ho6)
              clear H0 h6 hx6 ho6
              go_wp2_with fail
              refine (H6.out.scan HC (by omega) (by omega) (by omega)).mono ?_
              rintro e w7 ⟨ay, cy, S7, rfl, h7, _, _, hk7⟩
              have H7 := Lib.hid h7
              have HX7 := Lib.hid (Kp.els hk7 HX6.out.2 HX6.out.1)
              clear H6 HX6 h7 hk7
              have j1 : ¬ ((l.length : Nat) : Int) < (su : Int) := by omega
              go_wp2_with fail
              refine (H7.out.begins HX7.out).mono ?_
              rintro e w8 ⟨rfl, h8⟩
              have H8 := Lib.hid h8
              clear H7 HX7 h8
              go_wp2_with fail
              refine (H8.out.opened HS (by omega) (by omega) (by omega) (by omega)).mono ?_
              rintro e w9 ⟨b9, az, cz, all9, rfl, h9⟩
              have H9 := Lib.hid h9
              clear H8 h9
              go_wp2_with fail
              refine (H9.out.next HS).mono ?_
              rintro e w10 ⟨rfl, e10⟩
              subst e10
              obtain ⟨hkm, hmc, hsl⟩ := H9.out.sl
              have HSL := Lib.hid hsl
              clear hsl
              go_wp2_with (first
                | (refine wpList_slice_to elt_s rfl _ _ rfl rfl rfl (by omega) ?_)
                | (refine wpList_copy_sl (w := w10.alloc (.cells #[] 9)) (B := w10.heap.size) elt_s rfl _ _ rfl rfl (At.new w10 #[] 9) (Nat.le_refl _) rfl (HSL.out.below ((Below.refl _ _).alloc (Nat.le_refl _) (.cells #[] 9))) (by omega) ?_
                   intro a' c' w11 h4 hb4 hg4
                   have HF := Lib.hid (show LstI LI w bd ns (1000 + 2000 * k + ns + ns + ns) (k + 1) b9 a' l.length c' l.length w11 from H9.out.copied HS (Below.trans ((Below.refl _ _).alloc (Nat.le_refl _) _) hb4) h4)
                   clear h4 hb4 hg4 H9 HSL))
              refine (HF.out.scan HC HS (by omega) (by omega) (by omega)).mono ?_
              rintro e w8 ⟨a8, c8, u8, v8, rfl, h8⟩
              have H8 := Lib.hid h8
              clear h8 HF
              go_wp2_with fail
              refine (H8.out.begins HS).mono ?_
              rintro e w9 ⟨rfl, h9⟩
              have HF := Lib.hid (show LstI LI w bd ns (1000 + 2000 * (k + 1)) (k + 1) b9 a' l.length c' l.length w9 from h9.mono (by omega))
              clear h9 H8
              go_wp2
              go_roundw
              case rel => exact ⟨_, _, _, _, _, k + 1, rfl, rfl, rfl, by go_num, by omega, HF⟩
              case measure => simp [intOf]; omega
            · have d5 : ((op : Int) % 8 == 5) = false := by rw [beq_eq_false_iff_ne]; omega
              have d7 : ((op : Int) % 8 == 7) = false := by rw [beq_eq_false_iff_ne]; omega
              have d6 : ((op : Int) % 8 == 6) = false := by rw [beq_eq_false_iff_ne]; omega
              go_wp2_with (first
                | (refine wpList_load_range (by rfl) 36 _ rfl g (o + k * 4) rfl HRG.out Try.underlying36 rfl (info_act rfl) ?_)
                | (refine wpList_store_row rfl 36 _ _ rfl q (acV op (tx r) ka kn kc pl) rfl rfl _ _ HZ0.out (info_act rfl) rfl (acV_one _ _ _ _ _ _) ?_
                   clear HZ0 HRG rx
                   revert HT1; revert HL1; revert HBX
                   generalize World.setRow _ _ _ = W1
                   intro HBX HL1 HT1
                   have b0 : W1.cell? ⟨q, 0, none⟩ = some (.int .u8 op) := (HBX.out.cell 0).trans rfl
                   have b1 : W1.cell? ⟨q, 1, none⟩ = some (.string (tx r)) := (HBX.out.cell 1).trans rfl
                   have b2 : W1.cell? ⟨q, 2, none⟩ = some (.slice ka kn kc) := (HBX.out.cell 2).trans rfl
                   have b3 : W1.cell? ⟨q, 3, none⟩ = some (.int .u8 pl) := (HBX.out.cell 3).trans rfl))
              go_wp2_with fail
              refine (HS.append _ _ _ _ _ _ _ _ r HL1.out (by unfold maxLen; omega) (by rw [HO.out.1.size]; omega) HO.out.1.1 (fun hz => by rw [HO.out.1.size]; exact HO.out.1.nx hz) (by have := HO.out.2.1; omega) (by omega)).mono ?_
              rintro e w6 ⟨at6, e6, d6, x6, rfl, hr6, hL6, hk6⟩
              have hT6 := HT1.out.kp (kp_sub hk6 fun j hj => .inl hj)
              have he := HO.out.2.1
              have hl := HO.out.2.2
              rcases HO.out.1.append (by omega) hr6 with ⟨rfl, h2, h3, h4, h5, _⟩ | ⟨h2, h3, h4⟩
              · have HB6 := Lib.hid (hk6.at (.inr rfl) HBX.out)
                have HT6 := Lib.hid hT6
                have HL6 := Lib.hid hL6
                have HN6 := Lib.hid (And.intro h2 (And.intro h5 (And.intro he hl)))
                clear hr6 hL6 hk6 hT6 h2 h3 h4 h5 he hl HL1 HT1 HO HKB HBX b0 b1 b2 b3
                have hm64 : m ≤ 100 := by have := HN6.out.2.2.2; omega
                have b1 : w6.cell? ⟨q, 1, none⟩ = some (.string (tx r)) := (HB6.out.cell 1).trans rfl
                go_wp2_with fail
                have HSL := Lib.hid (Txs.all HT6.out)
                refine mf_start (fun w' => w'.cell? ⟨q, 1, none⟩ = some (.string (tx r))) (fun _ => false) b1 fun hS => ?_
                refine mf_yield (i := 1) (d := 86) (.slice a m c) rfl rfl (by kernel_rfl) (by kernel_rfl) (by kernel_rfl) (by kernel_rfl) hS (y_run (by rfl) fun _ => by rfl) ?_
                simp only [Act.put, List.setIfInBounds_toArray, List.set_cons_zero, List.set_cons_succ]
                refine mf_yield (i := 3) (d := 88) (.pointer (some ⟨q, 1, none⟩)) rfl rfl (by kernel_rfl) (by kernel_rfl) (by kernel_rfl) (by kernel_rfl) hS (y_fieldO (by rfl) rfl rfl fld_act1 rfl) ?_
                simp only [Act.put, List.setIfInBounds_toArray, List.set_cons_zero, List.set_cons_succ]
                refine mf_yield (i := 4) (d := 89) (.string (tx r)) rfl rfl (by kernel_rfl) (by kernel_rfl) (by kernel_rfl) (by kernel_rfl) hS (y_cell1 (by rfl) rfl rfl Try.underlying9 rfl (fun _ h => h)) ?_
                simp only [Act.put, List.setIfInBounds_toArray, List.set_cons_zero, List.set_cons_succ]
                have HX0 := Lib.hid (show Below w6.heap.size w6 w6.drew from (Below.refl _ _).drew)
                refine mf_ready [0, 5] (by kernel_rfl) (by simp) (af_of (i := 0) rfl (by rfl) (fun Q' hQ => ?_) <| af_of (i := 5) rfl (by rfl) (fun Q' hQ => ?_) <| AllReadyF.nil)
                · refine wpList_slice_nil elt_s rfl rfl ?_
                  have HX00 := Lib.hid (show Below w6.heap.size w6 (World.alloc w6.drew (.cells #[] 9)) from HX0.out.alloc HX0.out.size _)
                  have HE00 := Lib.hid (At.new w6.drew #[] 9)
                  have he : w6.heap.size ≤ w6.drew.heap.size := HX0.out.size
                  refine hQ _ _ (fun _ => ((HB6.out.below HX00.out HB6.out.lt).cell 1).trans rfl) ?_
                  clear hQ
                  clear Q'
                  simp only [Act.put, List.setIfInBounds_toArray, List.set_cons_zero, List.set_cons_succ]
                  refine mf_ready [2, 5] (by kernel_rfl) (by simp) (af_of (i := 2) rfl (by rfl) (fun Q' hQ => ?_) <| af_of (i := 5) rfl (by rfl) (fun Q' hQ => ?_) <| AllReadyF.nil)
                  · refine wpList_copy_sl (w := (World.alloc w6.drew (.cells #[] 9))) (B := w6.heap.size) elt_s rfl _ _ rfl rfl HE00.out he rfl (HSL.out.below HX00.out) (by omega) ?_
                    intro a3c c3c W002 h4 hb4 hg4
                    have HX002 := Lib.hid (Below.trans HX00.out hb4)
                    have HL002 := Lib.hid h4
                    refine hQ _ _ (fun _ => ((HB6.out.below HX002.out HB6.out.lt).cell 1).trans rfl) ?_
                    clear hQ h4 hb4 hg4
                    clear Q'
                    simp only [Act.put, List.setIfInBounds_toArray, List.set_cons_zero, List.set_cons_succ]
                    refine mf_of (i := 5) rfl (by kernel_rfl) (by rfl) fun Q' hQ => ?_
                    refine wpList_slice_el elt_s (R := #[.string (tx r)]) rfl (by omega) rfl _ rfl rfl rfl ?_
                    have HX0025 := Lib.hid (show Below w6.heap.size w6 (World.alloc W002 (.cells #[.string (tx r)] 9)) from HX002.out.alloc HX002.out.size _)
                    have HQ0025 := Lib.hid (At.new W002 #[.string (tx r)] 9)
                    have HL0025 := Lib.hid (HL002.out.below ((Below.refl _ _).alloc (Nat.le_refl _) (.cells #[.string (tx r)] 9)))
                    refine hQ _ _ (fun _ => ((HB6.out.below HX0025.out HB6.out.lt).cell 1).trans rfl) ?_
                    clear hQ
                    clear Q'
                    simp only [Act.put, List.setIfInBounds_toArray, List.set_cons_zero, List.set_cons_succ]
                    refine mf_of (i := 6) rfl (by kernel_rfl) (by rfl) fun Q' hQ => ?_
                    refine wpList_append_els elt_s rfl _ _ rfl rfl HL0025.out (W002.heap.size) 0 1 1 rfl (wid_one (R := #[.string (tx r)]) rfl (one_text _)) (At.one HQ0025.out) (by omega) HX0025.out.size ?_
                    intro a' c' W9 h9 hb9 _ _
                    have HX9 := Lib.hid (Below.trans HX0025.out hb9)
                    have L9 := Lib.hid h9
                    have hS9 : W9.cell? ⟨q, 1, none⟩ = some (.string (tx r)) := ((HB6.out.below HX9.out HB6.out.lt).cell 1).trans rfl
                    refine hQ _ _ (fun _ => hS9) ?_
                    clear hQ h9 hb9
                    clear Q'
                    simp only [Act.put, List.setIfInBounds_toArray, List.set_cons_zero, List.set_cons_succ]
                    refine mf_one (i := 7) (d := 10) (.slice a' ((m + 1)) c') rfl rfl (by kernel_rfl) hS9 (y_run (by rfl) fun _ => by rfl) ?_
                    simp only [Act.put, List.setIfInBounds_toArray, List.set_cons_zero, List.set_cons_succ]
                    refine mf_done (by kernel_rfl) ?_
                    have HF := Lib.hid (show LstI LI w bd ns (1000 + 2000 * k + 200) (k + 1) b a' (m + 1) c' su W9 from ap_done HS HN6.out.1 HN6.out.2.1 HN6.out.2.2.1 HN6.out.2.2.2 HL6.out HT6.out.1 HX9.out L9.out)
                    clear HX9 L9 hS9 HB6 HT6 HL6 HN6 HSL b1
                    go_wp2_with fail
                    refine (HF.out.scan HC HS (by omega) (by omega) (by omega)).mono ?_
                    rintro e w8 ⟨a8, c8, u8, v8, rfl, h8⟩
                    have H8 := Lib.hid h8
                    clear h8 HF
                    go_wp2_with fail
                    refine (H8.out.begins HS).mono ?_
                    rintro e w9 ⟨rfl, h9⟩
                    have HF := Lib.hid (show LstI LI w bd ns (1000 + 2000 * (k + 1)) (k + 1) b a' (m + 1) c' su w9 from h9.mono (by omega))
                    clear h9 H8
                    go_wp2
                    go_roundw
                    case rel => exact ⟨_, _, _, _, _, k + 1, rfl, rfl, rfl, by go_num, by omega, HF⟩
                    case measure => simp [intOf]; omega
                  · refine wpList_slice_el elt_s (R := #[.string (tx r)]) rfl (by omega) rfl _ rfl rfl rfl ?_
                    have HX005 := Lib.hid (show Below w6.heap.size w6 (World.alloc (World.alloc w6.drew (.cells #[] 9)) (.cells #[.string (tx r)] 9)) from HX00.out.alloc HX00.out.size _)
                    have HQ005 := Lib.hid (At.new (World.alloc w6.drew (.cells #[] 9)) #[.string (tx r)] 9)
                    have HE005 := Lib.hid (HE00.out.alloc (.cells #[.string (tx r)] 9))
                    refine hQ _ _ (fun _ => ((HB6.out.below HX005.out HB6.out.lt).cell 1).trans rfl) ?_
                    clear hQ
                    clear Q'
                    simp only [Act.put, List.setIfInBounds_toArray, List.set_cons_zero, List.set_cons_succ]
                    refine mf_of (i := 2) rfl (by kernel_rfl) (by rfl) fun Q' hQ => ?_
                    refine wpList_copy_sl (w := (World.alloc (World.alloc w6.drew (.cells #[] 9)) (.cells #[.string (tx r)] 9))) (B := w6.heap.size) elt_s rfl _ _ rfl rfl HE005.out he rfl (HSL.out.below HX005.out) (by omega) ?_
                    intro a3c c3c W0052 h4 hb4 hg4
                    have HX0052 := Lib.hid (Below.trans HX005.out hb4)
                    have HL0052 := Lib.hid h4
                    have HQ0052 := Lib.hid (show At W0052 (World.alloc w6.drew (.cells #[] 9)).heap.size #[.string (tx r)] 9 from (hg4.block _ HQ005.out.lt (by simp [World.size_alloc])).trans HQ005.out)
                    refine hQ _ _ (fun _ => ((HB6.out.below HX0052.out HB6.out.lt).cell 1).trans rfl) ?_
                    clear hQ h4 hb4 hg4
                    clear Q'
                    simp only [Act.put, List.setIfInBounds_toArray, List.set_cons_zero, List.set_cons_succ]
                    refine mf_of (i := 6) rfl (by kernel_rfl) (by rfl) fun Q' hQ => ?_
                    refine wpList_append_els elt_s rfl _ _ rfl rfl HL0052.out ((World.alloc w6.drew (.cells #[] 9)).heap.size) 0 1 1 rfl (wid_one (R := #[.string (tx r)]) rfl (one_text _)) (At.one HQ0052.out) (by omega) HX0052.out.size ?_
                    intro a' c' W9 h9 hb9 _ _
                    have HX9 := Lib.hid (Below.trans HX0052.out hb9)
                    have L9 := Lib.hid h9
                    have hS9 : W9.cell? ⟨q, 1, none⟩ = some (.string (tx r)) := ((HB6.out.below HX9.out HB6.out.lt).cell 1).trans rfl
                    refine hQ _ _ (fun _ => hS9) ?_
                    clear hQ h9 hb9
                    clear Q'
                    simp only [Act.put, List.setIfInBounds_toArray, List.set_cons_zero, List.set_cons_succ]
                    refine mf_one (i := 7) (d := 10) (.slice a' ((m + 1)) c') rfl rfl (by kernel_rfl) hS9 (y_run (by rfl) fun _ => by rfl) ?_
                    simp only [Act.put, List.setIfInBounds_toArray, List.set_cons_zero, List.set_cons_succ]
                    refine mf_done (by kernel_rfl) ?_
                    have HF := Lib.hid (show LstI LI w bd ns (1000 + 2000 * k + 200) (k + 1) b a' (m + 1) c' su W9 from ap_done HS HN6.out.1 HN6.out.2.1 HN6.out.2.2.1 HN6.out.2.2.2 HL6.out HT6.out.1 HX9.out L9.out)
                    clear HX9 L9 hS9 HB6 HT6 HL6 HN6 HSL b1
                    go_wp2_with fail
                    refine (HF.out.scan HC HS (by omega) (by omega) (by omega)).mono ?_
                    rintro e w8 ⟨a8, c8, u8, v8, rfl, h8⟩
                    have H8 := Lib.hid h8
                    clear h8 HF
                    go_wp2_with fail
                    refine (H8.out.begins HS).mono ?_
                    rintro e w9 ⟨rfl, h9⟩
                    have HF := Lib.hid (show LstI LI w bd ns (1000 + 2000 * (k + 1)) (k + 1) b a' (m + 1) c' su w9 from h9.mono (by omega))
                    clear h9 H8
                    go_wp2
                    go_roundw
                    case rel => exact ⟨_, _, _, _, _, k + 1, rfl, rfl, rfl, by go_num, by omega, HF⟩
                    case measure => simp [intOf]; omega
                · refine wpList_slice_el elt_s (R := #[.string (tx r)]) rfl (by omega) rfl _ rfl rfl rfl ?_
                  have HX05 := Lib.hid (show Below w6.heap.size w6 (World.alloc w6.drew (.cells #[.string (tx r)] 9)) from HX0.out.alloc HX0.out.size _)
                  have HQ05 := Lib.hid (At.new w6.drew #[.string (tx r)] 9)
                  refine hQ _ _ (fun _ => ((HB6.out.below HX05.out HB6.out.lt).cell 1).trans rfl) ?_
                  clear hQ
                  clear Q'
                  simp only [Act.put, List.setIfInBounds_toArray, List.set_cons_zero, List.set_cons_succ]
                  refine mf_of (i := 0) rfl (by kernel_rfl) (by rfl) fun Q' hQ => ?_
                  refine wpList_slice_nil elt_s rfl rfl ?_
                  have HX050 := Lib.hid (show Below w6.heap.size w6 (World.alloc (World.alloc w6.drew (.cells #[.string (tx r)] 9)) (.cells #[] 9)) from HX05.out.alloc HX05.out.size _)
                  have HE050 := Lib.hid (At.new (World.alloc w6.drew (.cells #[.string (tx r)] 9)) #[] 9)
                  have he : w6.heap.size ≤ (World.alloc w6.drew (.cells #[.string (tx r)] 9)).heap.size := HX05.out.size
                  have HQ050 := Lib.hid (HQ05.out.alloc (.cells #[] 9))
                  refine hQ _ _ (fun _ => ((HB6.out.below HX050.out HB6.out.lt).cell 1).trans rfl) ?_
                  clear hQ
                  clear Q'
                  simp only [Act.put, List.setIfInBounds_toArray, List.set_cons_zero, List.set_cons_succ]
                  refine mf_of (i := 2) rfl (by kernel_rfl) (by rfl) fun Q' hQ => ?_
                  refine wpList_copy_sl (w := (World.alloc (World.alloc w6.drew (.cells #[.string (tx r)] 9)) (.cells #[] 9))) (B := w6.heap.size) elt_s rfl _ _ rfl rfl HE050.out he rfl (HSL.out.below HX050.out) (by omega) ?_
                  intro a3c c3c W0502 h4 hb4 hg4
                  have HX0502 := Lib.hid (Below.trans HX050.out hb4)
                  have HL0502 := Lib.hid h4
                  have HQ0502 := Lib.hid (show At W0502 w6.drew.heap.size #[.string (tx r)] 9 from (hg4.block _ HQ050.out.lt (by simp [World.size_alloc])).trans HQ050.out)
                  refine hQ _ _ (fun _ => ((HB6.out.below HX0502.out HB6.out.lt).cell 1).trans rfl) ?_
                  clear hQ h4 hb4 hg4
                  clear Q'
                  simp only [Act.put, List.setIfInBounds_toArray, List.set_cons_zero, List.set_cons_succ]
                  refine mf_of (i := 6) rfl (by kernel_rfl) (by rfl) fun Q' hQ => ?_
                  refine wpList_append_els elt_s rfl _ _ rfl rfl HL0502.out (w6.drew.heap.size) 0 1 1 rfl (wid_one (R := #[.string (tx r)]) rfl (one_text _)) (At.one HQ0502.out) (by omega) HX0502.out.size ?_
                  intro a' c' W9 h9 hb9 _ _
                  have HX9 := Lib.hid (Below.trans HX0502.out hb9)
                  have L9 := Lib.hid h9
                  have hS9 : W9.cell? ⟨q, 1, none⟩ = some (.string (tx r)) := ((HB6.out.below HX9.out HB6.out.lt).cell 1).trans rfl
                  refine hQ _ _ (fun _ => hS9) ?_
                  clear hQ h9 hb9
                  clear Q'
                  simp only [Act.put, List.setIfInBounds_toArray, List.set_cons_zero, List.set_cons_succ]
                  refine mf_one (i := 7) (d := 10) (.slice a' ((m + 1)) c') rfl rfl (by kernel_rfl) hS9 (y_run (by rfl) fun _ => by rfl) ?_
                  simp only [Act.put, List.setIfInBounds_toArray, List.set_cons_zero, List.set_cons_succ]
                  refine mf_done (by kernel_rfl) ?_
                  have HF := Lib.hid (show LstI LI w bd ns (1000 + 2000 * k + 200) (k + 1) b a' (m + 1) c' su W9 from ap_done HS HN6.out.1 HN6.out.2.1 HN6.out.2.2.1 HN6.out.2.2.2 HL6.out HT6.out.1 HX9.out L9.out)
                  clear HX9 L9 hS9 HB6 HT6 HL6 HN6 HSL b1
                  go_wp2_with fail
                  refine (HF.out.scan HC HS (by omega) (by omega) (by omega)).mono ?_
                  rintro e w8 ⟨a8, c8, u8, v8, rfl, h8⟩
                  have H8 := Lib.hid h8
                  clear h8 HF
                  go_wp2_with fail
                  refine (H8.out.begins HS).mono ?_
                  rintro e w9 ⟨rfl, h9⟩
                  have HF := Lib.hid (show LstI LI w bd ns (1000 + 2000 * (k + 1)) (k + 1) b a' (m + 1) c' su w9 from h9.mono (by omega))
                  clear h9 H8
                  go_wp2
                  go_roundw
                  case rel => exact ⟨_, _, _, _, _, k + 1, rfl, rfl, rfl, by go_num, by omega, HF⟩
                  case measure => simp [intOf]; omega
              · have HF := Lib.hid (show LstI LI w bd ns (1000 + 2000 * k + 200) (k + 1) b a m c su w6 from ⟨d6, x6, all, hL6.sub fun j hj => .inl hj, h2, by rw [h3]; omega, hT6, by omega⟩)
                have he6 : (e6 == 0) = false := by
                  rw [beq_eq_false_iff_ne]
                  rcases h4 with ⟨e, _⟩ | ⟨e, _⟩ | ⟨e, _⟩ | ⟨e, _⟩ <;> omega
                clear hr6 hL6 hk6 hT6 h2 h3 h4 he hl
                go_wp2_with fail
                refine (HF.out.scan HC HS (by omega) (by omega) (by omega)).mono ?_
                rintro e w8 ⟨a8, c8, u8, v8, rfl, h8⟩
                have H8 := Lib.hid h8
                clear h8 HF
                go_wp2_with fail
                refine (H8.out.begins HS).mono ?_
                rintro e w9 ⟨rfl, h9⟩
                have HF := Lib.hid (show LstI LI w bd ns (1000 + 2000 * (k + 1)) (k + 1) b a m c su w9 from h9.mono (by omega))
                clear h9 H8
                go_wp2
                go_roundw
                case rel => exact ⟨_, _, _, _, _, k + 1, rfl, rfl, rfl, by go_num, by omega, HF⟩
                case measure => simp [intOf]; omega
      · obtain rfl : k = n := by omega
        have k1 : decide ((k : Int) < (k : Int)) = false := decide_eq_false (by omega)
        have HB := Lib.hid q1.below.1
        clear q1 q2 q3 q4 q5
        go_wp2
        go_ret
        exact ⟨rfl, HB.out⟩
end Go.Proofs.Ytbbeekpndhfpjaa.Sg
end
