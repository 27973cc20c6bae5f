/- RangNumbers: the walk. -/
import Derived.Test.YtnlfbndemajkaaaDoorRgV
import Derived.Deep.DeepCutAuto
import Derived.StillTailTactics
set_option maxRecDepth 100000
set_option linter.unusedVariables false
namespace Go.Proofs.YtnlfbndemajkaaaDoor.Rg
open Go.RowKit Go.Proofs.YtnlfbndemajkaaaDoor.Row

theorem PS.start2 {W w w1 : World} {b size g n c : Nat} {x y : St} {A : Nat → Prop} (h : EncOff W b size x A w) (hg : w.heap.size ≤ g) (hr : RefAt w1 g n c y) (hb : Below w.heap.size w w1) (hg2 : g < w1.heap.size) :
    PS W b size w1.heap.size g n c x y (w1.alloc (.cells #[.slice (some ⟨g, 0, none⟩) n c, .int .i64 y.r] 48)) := by
  have hs := h.out.size
  have hs2 := hb.size
  have hal := (Below.refl w1.heap.size w1).alloc (Nat.le_refl _) (.cells #[.slice (some ⟨g, 0, none⟩) n c, .int .i64 y.r] 48)
  refine ⟨h.add (below_trans hb hal hs2) fun k hk => .inr ?_, hr.below hal, At.new _ _ _, by omega, by omega, by omega⟩
  have e : (w1.alloc (.cells #[.slice (some ⟨g, 0, none⟩) n c, .int .i64 y.r] 48)).heap.size = w1.heap.size + 1 := by simp
  rcases hk with rfl | rfl <;> omega

/-- Is a number put? -/
def fitsB (X K : Int) : Bool := decide (0 ≤ K ∧ K ≤ 24 ∧ 0 ≤ X ∧ X < 2 ^ K.toNat)
/-- The coder then. -/
def numSt (X K : Int) : St := if fitsB X K then St.new.run (bitsC 3 X.toNat K.toNat) else St.new
def numErr (X K : Int) : Int := if fitsB X K then 0 else 1
theorem fits_yes {X K : Int} (h : fitsB X K = true) : 0 ≤ K ∧ K ≤ 24 ∧ 0 ≤ X ∧ X < 2 ^ K.toNat := of_decide_eq_true h
theorem fits_no {X K : Int} (h : fitsB X K = false) : ¬ (0 ≤ K ∧ K ≤ 24 ∧ 0 ≤ X ∧ X < 2 ^ K.toNat) := of_decide_eq_false h
theorem numSt_ok (X K : Int) : (numSt X K).ok ∧ (numSt X K).g ≤ 6 := by
  unfold numSt
  split
  · have h1 := run_ok (x := St.new) new_ok (bitsC_ok 3 X.toNat K.toNat)
    have h2 := run_g_le (x := St.new) new_ok (bitsC_ok 3 X.toNat K.toNat)
    have h3 := bitsC_len 3 X.toNat K.toNat
    have h4 : St.new.g = 0 := rfl
    exact ⟨h1, by omega⟩
  · exact ⟨new_ok, by show 0 ≤ 6; omega⟩

theorem bits_any (w0 w : World) (b : Nat) (size : Nat) (X K G : Int) (y : St) (hG : numErr X K = G) (hy : numSt X K = y) (h : EncOn w0 b size St.new w) (hsz : size ≤ 4096) :
    Calls Tryd.prog 19 #[.pointer (some ⟨b, 0, none⟩), .int .i64 X, .int .i64 K] w fun e w' => e = .returned (.int .i64 G) ∧ EncOn w0 b size y w' := by
  subst hG hy
  unfold numErr numSt
  cases hD : fitsB X K with
  | true =>
    obtain ⟨k1, k2, x1, x2⟩ := fits_yes hD
    refine bits_on w0 w b size St.new X.toNat K.toNat X K (by omega) (by omega) h new_ok hsz (by decide) (by omega) ?_
    have : ((X.toNat : Nat) : Int) < ((2 ^ K.toNat : Nat) : Int) := by rw [Int.natCast_pow]; rw [show ((X.toNat : Nat) : Int) = X by omega]; exact x2
    exact Int.ofNat_lt.1 this
  | false =>
    have hn := fits_no hD
    refine (encBits_no w (some ⟨b, 0, none⟩) X K (.inr ?_)).mono fun e w' ⟨he, hw⟩ => ⟨he, hw ▸ h⟩
    by_cases h1 : 0 ≤ K ∧ K ≤ 24
    · by_cases h2 : X < 0
      · exact .inr (.inl h2)
      · refine .inr (.inr ?_)
        have : ¬ X < 2 ^ K.toNat := fun h3 => hn ⟨h1.1, h1.2, by omega, h3⟩
        omega
    · exact .inl h1

set_option maxHeartbeats 4000000 in
theorem rangNumbers_walk (a0 a1 : Int) (B : ByteArray) (W : World) :
    Calls Tryd.prog 6 #[.int .i64 a0, .int .i64 a1, .string B] W fun e w' => e = .returned (.bool true) ∧ Below W.heap.size W w' := by
  by_cases h500 : 500 < B.size
  · have h500' : decide (500 < (B.size : Int)) = true := by simp; omega
    go_enter Tryd.func6, Tryd.ntmps6
    go_wp2_with fail
    refine (awake_yes _).mono ?_
    rintro e w1 ⟨rfl, h1⟩
    have B1 := Lib.hid h1
    clear h1
    go_wp2_with fail
    refine (awake_yes _).mono ?_
    rintro e w2 ⟨rfl, h2⟩
    have B2 := Lib.hid h2
    clear h2
    go_wp2
    go_ret
    exact ⟨rfl, below_trans B1.out B2.out B1.out.size⟩
  · have hB5 : B.size ≤ 500 := by omega
    have h500' : decide (500 < (B.size : Int)) = false := by simp; omega
    obtain ⟨s, hs⟩ : ∃ s : List UInt8, s = B.data.toList := ⟨_, rfl⟩
    have HSB := Lib.hid (show (⟨s.toArray⟩ : ByteArray) = B by rw [hs])
    have hsl : s.length ≤ 500 := by rw [hs, ← Lib.size_eq]; exact hB5
    clear hs h500
    obtain ⟨D, hD⟩ : ∃ D, fitsB a0 a1 = D := ⟨_, rfl⟩
    have HD := Lib.hid hD
    obtain ⟨G, hG⟩ : ∃ G, numErr a0 a1 = G := ⟨_, rfl⟩
    have HG := Lib.hid hG
    obtain ⟨y, hy⟩ : ∃ y, numSt a0 a1 = y := ⟨_, rfl⟩
    have HY := Lib.hid hy
    obtain ⟨yok, yg⟩ := numSt_ok a0 a1
    rw [hy] at yok yg
    have YOK := Lib.hid yok
    clear hD hG hy yok
    go_enter Tryd.func6, Tryd.ntmps6
    go_wp2_with fail
    refine (awake_yes _).mono ?_
    rintro e w1 ⟨rfl, h1⟩
    have B1 := Lib.hid h1
    clear h1
    go_wp2_with fail
    refine (newEnc_yes 50 _ (by omega) (by omega)).mono ?_
    intro e w2 h
    obtain ⟨b, rfl, h2⟩ := EncOn.new h
    have E2 := Lib.hid (EncOn.from B1.out h2)
    clear h h2 B1
    go_wp2_with fail
    refine (bits_any W _ b 50 a0 a1 G y HG.out HY.out E2.out (by omega)).mono ?_
    rintro e w3 ⟨rfl, h3⟩
    have E3 := Lib.hid (EncOff.of h3 (fun _ => False) (fun _ h => h.elim))
    clear h3 E2
    go_wp2_with fail
    refine (refNew_as _).mono ?_
    rintro e w4 ⟨g, n, c, rfl, hg4, hR4, hb4⟩
    have P4 := Lib.hid (PS.start2 (b := b) E3.out hg4 hR4 hb4 hR4.lt)
    clear hg4 hR4 hb4 E3
    unfold refV
    go_upto_region 6 with fail
    obtain ⟨bx, hbx⟩ : ∃ bx, w4.heap.size = bx := ⟨_, rfl⟩
    rw [hbx] at P4 ⊢
    revert P4
    generalize w4.alloc _ = w5
    intro P5
    clear hbx
    go_cut [61] (fun s wx => s = .bool (!D) ∧ w5 = wx)
    case first =>
      have hd := HD.out
      by_cases n1 : a1 < 0
      · have hD : D = false := by rw [← hd]; exact decide_eq_false (by omega)
        go_wp2
        go_meet
        exact ⟨by rw [hD]; rfl, rfl⟩
      · by_cases n2 : 24 < a1
        · have hD : D = false := by rw [← hd]; exact decide_eq_false (by omega)
          go_wp2
          go_meet
          exact ⟨by rw [hD]; rfl, rfl⟩
        · by_cases n3 : a0 < 0
          · have hD : D = false := by rw [← hd]; exact decide_eq_false (by omega)
            go_wp2
            go_meet
            exact ⟨by rw [hD]; rfl, rfl⟩
          · have hmax : ∀ W, (Builtin.max_ #[3, 3] 3 #[.int .i64 a1, .int .i64 0]).run Tryd.prog W = .ok (.int .i64 a1) W := fun W => by
              simp [Builtin.max_, Builtin.max2]
              omega
            obtain ⟨Q, hQ⟩ : ∃ Q : Int, (2 : Int) ^ a1.toNat = Q := ⟨_, rfl⟩
            have HQ := Lib.hid hQ
            have hD : D = decide (a0 < Q) := by rw [← hd, ← hQ]; exact decide_eq_decide.2 (by omega)
            have HDD := Lib.hid hD
            clear hD hQ hd
            go_wp2_with (go_at_call 20; (with_reducible refine (Ref01.pow_as a1 Q _ (by omega) (by omega) HQ.out).mono ?_); rintro e w' ⟨rfl, rfl⟩)
            go_meet
            exact ⟨by rw [HDD.out]; congr 1; by_cases hh : a0 < Q <;> simp [hh] <;> omega, rfl⟩
    case rest =>
      obtain ⟨rfl, rfl⟩ := hcut
      go_upto_if 61 with fail
      go_cut [] (fun wx => Below W.heap.size W wx)
      case first =>
        cases D with
        | false =>
          obtain rfl : G = 1 := by rw [← HG.out]; unfold numErr; rw [HD.out]; rfl
          obtain rfl : y = St.new := by rw [← HY.out]; unfold numSt; rw [HD.out]; rfl
          go_wp2_with (go_at_call 13; (with_reducible refine (used_ps W _ b 50 bx g n c St.new St.new 0 P5.out (by decide) (by decide) (by decide)).mono ?_); rintro e w6 ⟨rfl, h6⟩; have B6 := Lib.hid (P5.out.below h6).out; clear h6)
          go_meet
          exact B6.out
        | true =>
          obtain rfl : G = 0 := by rw [← HG.out]; unfold numErr; rw [HD.out]; rfl
          obtain ⟨k1, k2, x1, x2⟩ := fits_yes HD.out
          obtain ⟨x, rfl⟩ := Int.eq_ofNat_of_zero_le x1
          obtain ⟨m, rfl⟩ := Int.eq_ofNat_of_zero_le k1
          have hx24 : x < 2 ^ 24 := by
            have h1 : ((x : Nat) : Int) < ((2 ^ m : Nat) : Int) := by rw [Int.natCast_pow]; exact x2
            have h2 := Int.ofNat_lt.1 h1
            exact Nat.lt_of_lt_of_le h2 (Nat.pow_le_pow_right (by omega) (by omega))
          have HYY := Lib.hid (show y = St.new.run (bitsC 3 x m) by rw [← HY.out]; unfold numSt; rw [HD.out]; rfl)
          have HL := Lib.hid (bitsC_ok 3 x m)
          have hL3 := bitsC_len 3 x m
          have HRB := Lib.hid (fun w => refBits_as x m w (by omega) hx24)
          obtain ⟨L, hL⟩ : ∃ L, bitsC 3 x m = L := ⟨_, rfl⟩
          rw [hL] at HYY HL hL3 HRB
          clear hL x1 x2 hx24 HD HG HY
          go_wp2_with fail
          refine (HRB.out _).mono ?_
          rintro e w6 ⟨a, cc, rfl, hC, hb6⟩
          have P6 := Lib.hid (P5.out.below hb6)
          have LS6 := Lib.hid hC.ls
          have HBK := Lib.hid (show ∀ k, Blk a k → k ≠ bx from fun k hk => by have := (hC.blk k hk).1; have := P5.out.row.lt; omega)
          clear hC hb6 P5 HRB
          go_wp2
          go_loopw [12] (fun i wr => ∃ (k g n c : Nat) (z : St), k ≤ L.length ∧ i = .int .i64 k ∧ Hid (z = St.new.run (L.take k)) ∧ z.ok ∧ z.g ≤ 2 * k ∧ PS W b 50 bx g n c y z wr ∧ LsAt wr a L) (fun i _ => 3 - (intOf i).toNat)
          case atStart => exact ⟨0, g, n, c, St.new, Nat.zero_le _, rfl, Lib.hid rfl, new_ok, Nat.le_refl _, P6.out, LS6.out⟩
          case round =>
            obtain ⟨k, g, n, c, z, hk, rfl, HZ, hz, hzg, hP, hLS⟩ := hrel
            have P := Lib.hid hP
            have LS := Lib.hid hLS
            clear hP hLS P6 LS6
            by_cases hlt : k < L.length
            · obtain ⟨ga, rfl⟩ := LS.out.1 (by omega)
              obtain ⟨C, hC⟩ : ∃ C, L[k]? = some C := ⟨_, List.getElem?_eq_getElem hlt⟩
              have HCok := Lib.hid (HL.out C (List.mem_of_getElem? hC))
              have HT := Lib.hid (take_snoc L k C hC)
              have HZ2 := Lib.hid (show z.put C = St.new.run (L.take (k + 1)) by rw [HT.out, run_snoc, ← HZ.out])
              have HY2 := Lib.hid (put_ok hz HCok.out)
              have hyg2 := put_g hz HCok.out
              have HZOK := Lib.hid hz
              obtain ⟨c0', c1', c2'⟩ := LS.out.2 ga rfl k C hC
              obtain ⟨CS, hCS⟩ : ∃ q : Int, (C.s : Int) = q := ⟨_, rfl⟩
              obtain ⟨CW, hCW⟩ : ∃ q : Int, (C.w : Int) = q := ⟨_, rfl⟩
              obtain ⟨CT, hCT⟩ : ∃ q : Int, (C.t : Int) = q := ⟨_, rfl⟩
              rw [hCS] at c0'
              rw [hCW] at c1'
              rw [hCT] at c2'
              have HCE := Lib.hid (⟨hCS, hCW, hCT⟩ : (C.s : Int) = CS ∧ (C.w : Int) = CW ∧ (C.t : Int) = CT)
              have D0 : wr.drew.cell? ⟨ga, k * 3, none⟩ = some (.int .i64 CS) := c0'
              have D1 : wr.drew.cell? ⟨ga, k * 3 + 1, none⟩ = some (.int .i64 CW) := c1'
              have D2 : wr.drew.cell? ⟨ga, k * 3 + 2, none⟩ = some (.int .i64 CT) := c2'
              have r0 : wr.drew.cell? ⟨bx, 0, none⟩ = some (.slice (some ⟨g, 0, none⟩) n c) := P.out.row.cell 0
              have r1 : wr.drew.cell? ⟨bx, 1, none⟩ = some (.int .i64 z.r) := P.out.row.cell 1
              obtain ⟨ZR, hZR⟩ : ∃ q : Int, (z.r : Int) = q := ⟨_, rfl⟩
              rw [hZR] at r1
              have HZR := Lib.hid hZR
              clear hC hCS hCW hCT c0' c1' c2' hz hZR
              go_upto_region 13 with fail
              go_still_tail 5, (by kernel_rfl)
              go_wp2_with fail
              refine (refPut_at g n c z C ZR CS CW CT _ HZR.out HCE.out.1 HCE.out.2.1 HCE.out.2.2 (P.out.ref.below (Below.refl _ _).drew) HZOK.out HCok.out (by omega)).mono ?_
              rintro e w7 ⟨g2, n2, c2, rfl, hg7, hR7, hb7⟩
              have HN7 := Lib.hid ((P.out.below (Below.refl _ _).drew).next hg7 hR7 hb7)
              have LS7 := Lib.hid (LsAt.fr (w' := w7.setRow bx #[.slice (some ⟨g2, 0, none⟩) n2 c2, .int .i64 (z.put C).r]) (LsAt.below (w := wr.drew) LS.out hb7) ((Fr.refl (Just bx) _).setRow (.inl (Just.self bx)) _) (fun k hk hb => HBK.out k hb hk))
              have HZR' := HZR.out
              subst HZR'
              obtain ⟨z2, hz2⟩ : ∃ z2, z.put C = z2 := ⟨_, rfl⟩
              rw [hz2] at HN7 LS7 HZ2 HY2 hyg2
              rw [hz2]
              clear hg7 hR7 hb7 hz2 r0 r1 D0 D1 D2
              unfold refV
              go_wp2_with (refine wpList_store_row rfl 48 _ _ rfl bx #[.slice (some ⟨g2, 0, none⟩) n2 c2, .int .i64 z2.r] rfl rfl _ _ HN7.out.1 (by kernel_rfl) rfl (one_ref _ _ _ _) ?_)
              have P7 := Lib.hid HN7.out.2
              clear HN7 P LS
              go_wp2
              go_roundw
              case rel => exact ⟨k + 1, g2, n2, c2, z2, by omega, by go_num, HZ2, HY2.out, by omega, P7.out, LS7.out⟩
              case measure => simp [intOf]; omega
            · obtain rfl : k = L.length := by omega
              have HZY := Lib.hid (show z = y by rw [HZ.out, List.take_length, ← HYY.out])
              obtain ⟨t, ht⟩ : ∃ t : ByteArray, ⟨(y.out 50).toArray⟩ = t := ⟨_, rfl⟩
              have HTT := Lib.hid ht
              obtain ⟨E, hE⟩ : ∃ E : Int, y.err 50 = E := ⟨_, rfl⟩
              have HE := Lib.hid hE
              obtain ⟨F, hF⟩ : ∃ F, decide (y.trim.length ≤ 50) = F := ⟨_, rfl⟩
              have HF := Lib.hid hF
              obtain rfl := HZY.out
              clear ht hE hF hlt hk HZ HZY
              go_wp2_with fail
              refine (done_ps W _ b 50 bx g n c z z t E P.out (by omega) HTT.out HE.out).mono ?_
              rintro e w7 ⟨rfl, h7⟩
              have P7 := Lib.hid h7
              have r0 : w7.cell? ⟨bx, 0, none⟩ = some (.slice (some ⟨g, 0, none⟩) n c) := P7.out.row.cell 0
              have r1 : w7.cell? ⟨bx, 1, none⟩ = some (.int .i64 z.r) := P7.out.row.cell 1
              clear h7 P
              go_wp2_with fail
              refine (refDone_at g n c z z.r 50 50 t F _ rfl rfl HTT.out HF.out P7.out.ref (by omega) (by omega)).mono ?_
              rintro e w8 ⟨rfl, h8⟩
              have B8 := Lib.hid (below_trans P7.out.out h8 P7.out.out.size)
              clear h8 P7 r0 r1
              have ht2 : (t.toList != t.toList) = false := by simp
              have ht3 : (t.toList == t.toList) = true := by simp
              go_wp2
              go_meet
              exact B8.out
      case rest =>
        have BC := Lib.hid hcut
        clear hcut P5 HD HG HY
        go_wp2_with fail
        refine (newDec_as B s _ HSB.out (by omega)).mono ?_
        rintro e w6 ⟨bd, T, rfl, hDD, hT, hb6⟩
        have HDD := Lib.hid hDD
        have HT := Lib.hid (fun k hk => Nat.le_trans BC.out.size (hT k hk))
        have B6 := Lib.hid (below_trans BC.out hb6 BC.out.size)
        have HOK := Lib.hid (new_dt (byteF s))
        clear hDD hT hb6 BC
        obtain ⟨d, hd⟩ : ∃ d, Dt.new (byteF s) = d := ⟨_, rfl⟩
        have hdg : d.g = 0 := by rw [← hd]; rfl
        rw [hd] at HDD HOK
        clear hd
        by_cases hn : 0 ≤ a1 ∧ a1 ≤ 24
        · obtain ⟨k1, k2⟩ := hn
          obtain ⟨m, rfl⟩ := Int.eq_ofNat_of_zero_le k1
          have hx := decB_lt (f := byteF s) 3 m (d := d) (by omega)
          obtain ⟨x, hxx⟩ : ∃ x, (decB (byteF s) 3 m d).1 = x := ⟨_, rfl⟩
          rw [hxx] at hx
          have HX := Lib.hid hxx
          obtain ⟨Q, hQ⟩ : ∃ Q : Int, (2 : Int) ^ m = Q := ⟨_, rfl⟩
          have HQ := Lib.hid (show (2 : Int) ^ (m : Int).toNat = Q by rw [Int.toNat_natCast]; exact hQ)
          have hxQ : (x : Int) < Q := by rw [← hQ]; exact_mod_cast hx
          have hm24 : m ≤ 24 := by omega
          clear hx hxx hQ k1
          go_wp2_with fail
          refine (decBits_as w6 bd T s d m x HDD.out HOK.out (by omega) hm24 (by omega) HX.out).mono ?_
          rintro e w7 ⟨rfl, _, h7⟩
          have B7 := Lib.hid (B6.out.trans (h7.below B6.out.size HT.out))
          clear h7 B6 HDD HOK
          have hlt0 : decide ((x : Int) < 0) = false := by simp
          go_wp2_with (first
            | (go_at_call 20; (with_reducible refine (Ref01.pow_as (m : Int) Q _ (by omega) (by omega) HQ.out).mono ?_); rintro e w' ⟨rfl, rfl⟩)
            | (go_at_call 14; (with_reducible refine (done_nil _).mono ?_); rintro e w' ⟨rfl, rfl⟩)
            | (go_at_call 16; (with_reducible refine (at_no _ none 2 (.inl rfl)).mono ?_); rintro e w' ⟨rfl, rfl⟩)
            | (go_at_call 21; (with_reducible refine (decBits_no _ none 2 (.inl rfl)).mono ?_); rintro e w' ⟨rfl, rfl⟩)
            | (go_at_call 12; (with_reducible refine (put_no _ none 0 1 2 (by omega) (.inl rfl)).mono ?_); rintro e w' ⟨rfl, rfl⟩)
            | (go_at_call 19; (with_reducible refine (encBits_no _ none 0 1 (.inl rfl)).mono ?_); rintro e w' ⟨rfl, rfl⟩)
            | (go_at_call 13; (with_reducible refine (encUsed_nil _).mono ?_); rintro e w' ⟨rfl, rfl⟩)
            | (go_at_call 17; (with_reducible refine (take_no _ none 0 1 2 (by omega) (.inl rfl)).mono ?_); rintro e w' ⟨rfl, rfl⟩)
            | (go_at_call 18; (with_reducible refine (decUsed_nil _).mono ?_); rintro e w' ⟨rfl, rfl⟩))
          go_ret
          exact ⟨rfl, B7.out⟩
        · have HN := Lib.hid hn
          have hcase : a1 < 0 ∨ 24 < a1 := by omega
          clear hn
          rcases hcase with hc | hc
          all_goals
            go_wp2_with fail
            refine (decBits_no w6 (some ⟨bd, 0, none⟩) a1 (.inr HN.out)).mono ?_
            rintro e w7 ⟨rfl, rfl⟩
            go_wp2_with (first
              | (go_at_call 14; (with_reducible refine (done_nil _).mono ?_); rintro e w' ⟨rfl, rfl⟩)
              | (go_at_call 16; (with_reducible refine (at_no _ none 2 (.inl rfl)).mono ?_); rintro e w' ⟨rfl, rfl⟩)
              | (go_at_call 21; (with_reducible refine (decBits_no _ none 2 (.inl rfl)).mono ?_); rintro e w' ⟨rfl, rfl⟩)
              | (go_at_call 12; (with_reducible refine (put_no _ none 0 1 2 (by omega) (.inl rfl)).mono ?_); rintro e w' ⟨rfl, rfl⟩)
              | (go_at_call 19; (with_reducible refine (encBits_no _ none 0 1 (.inl rfl)).mono ?_); rintro e w' ⟨rfl, rfl⟩)
              | (go_at_call 13; (with_reducible refine (encUsed_nil _).mono ?_); rintro e w' ⟨rfl, rfl⟩)
              | (go_at_call 17; (with_reducible refine (take_no _ none 0 1 2 (by omega) (.inl rfl)).mono ?_); rintro e w' ⟨rfl, rfl⟩)
              | (go_at_call 18; (with_reducible refine (decUsed_nil _).mono ?_); rintro e w' ⟨rfl, rfl⟩))
            go_ret
            exact ⟨rfl, B6.out⟩
end Go.Proofs.YtnlfbndemajkaaaDoor.Rg
