/- The statement FragBack, on what is asked of Cut, Pages, Take, Begun alone. -/
import Derived.Test.YtmaelcjmojhlpaaFgJ
set_option maxRecDepth 100000
set_option linter.unusedVariables false
set_option linter.unusedSimpArgs false
namespace Go.Proofs.Ytmaelcjmojhlpaa.Fg
open Go.RowKit Go.Proofs.Ytmaelcjmojhlpaa.Row Go.Proofs.Ytmaelcjmojhlpaa.Pa

set_option maxHeartbeats 4000000 in
theorem back_big {JI : World → Nat → (Nat → Prop) → Jn → Prop} {Z : Array Value} (HJ : Joins JI Z) (HC : CutYes) (HCN : CutNo) (HG : PagesAs) (e : Nat) (r : List UInt8) (hd : Nat) (w : World) (he : e < 4294967296) (hr : r.length ≤ maxLen) (hh : hd < 256) (hbig : 5000 < r.length) :
    Calls Try.prog 3 #[.int .u32 e, .string (tx r), .int .u8 hd] w fun en w' => en = .returned (.bool true) ∧ Below w.heap.size w w' := by
  have HAW := Lib.hid (fun w => awake_as HC HG w)
  obtain ⟨R, hR⟩ : ∃ R, tx r = R := ⟨_, rfl⟩
  obtain ⟨n, hn⟩ : ∃ n, r.length = n := ⟨_, rfl⟩
  have hs : R.size = n := by rw [← hR, tx_size, hn]
  rw [hR]
  rw [hn] at hbig hr
  clear hn hR
  unfold maxLen at hr
  go_enter Try.func3, Try.ntmps3
  go_wp2_with fail
  refine (HAW.out _).mono ?_
  rintro en w1 ⟨rfl, hb⟩
  have HB1 := Lib.hid hb
  clear hb
  go_wp2_with fail
  refine (HAW.out _).mono ?_
  rintro en w2 ⟨rfl, hb⟩
  have HB2 := Lib.hid (below_trans HB1.out hb HB1.out.size)
  clear hb
  go_wp2_with fail
  go_ret
  exact ⟨rfl, HB2.out⟩

set_option maxHeartbeats 4000000 in
theorem back_not0 {JI : World → Nat → (Nat → Prop) → Jn → Prop} {Z : Array Value} (HJ : Joins JI Z) (HC : CutYes) (HCN : CutNo) (HG : PagesAs) (e : Nat) (r : List UInt8) (hd : Nat) (w : World) (he : e < 4294967296) (hr : r.length ≤ maxLen) (hh : hd < 256) (hbig : ¬ 5000 < r.length) (hno : r.length < 1) :
    Calls Try.prog 3 #[.int .u32 e, .string (tx r), .int .u8 hd] w fun en w' => en = .returned (.bool true) ∧ Below w.heap.size w w' := by
  have HAW := Lib.hid (fun w => awake_as HC HG w)
  obtain ⟨R, hR⟩ : ∃ R, tx r = R := ⟨_, rfl⟩
  obtain ⟨n, hn⟩ : ∃ n, r.length = n := ⟨_, rfl⟩
  have hs : R.size = n := by rw [← hR, tx_size, hn]
  rw [hR]
  rw [hn] at hbig hr hno
  have HCX := Lib.hid (fun w => HCN e R w he (by rw [hs]; exact hr) (by rw [hs]; omega))
  have HGX := Lib.hid (fun w => HG n w hr)
  rw [show pgN n = 0 by unfold pgN; rw [if_neg (by omega)]] at HGX
  clear hn hR
  unfold maxLen at hr
  go_enter Try.func3, Try.ntmps3
  go_wp2_with fail
  refine (HAW.out _).mono ?_
  rintro en w1 ⟨rfl, hb⟩
  have HB1 := Lib.hid hb
  clear hb
  go_wp2_with fail
  refine (HCX.out _).mono ?_
  rintro en w2 ⟨a1, c1, rfl, hb⟩
  have HB2 := Lib.hid (below_trans HB1.out hb HB1.out.size)
  clear hb
  go_wp2_with fail
  refine (HGX.out _).mono ?_
  rintro en w3 ⟨rfl, hb⟩
  have HB3 := Lib.hid (below_trans HB2.out hb HB2.out.size)
  clear hb
  go_wp2_with fail
  go_ret
  exact ⟨rfl, HB3.out⟩

set_option maxHeartbeats 4000000 in
theorem back_not1 {JI : World → Nat → (Nat → Prop) → Jn → Prop} {Z : Array Value} (HJ : Joins JI Z) (HC : CutYes) (HCN : CutNo) (HG : PagesAs) (e : Nat) (r : List UInt8) (hd : Nat) (w : World) (he : e < 4294967296) (hr : r.length ≤ maxLen) (hh : hd < 256) (hbig : ¬ 5000 < r.length) (hno : 4096 < r.length) :
    Calls Try.prog 3 #[.int .u32 e, .string (tx r), .int .u8 hd] w fun en w' => en = .returned (.bool true) ∧ Below w.heap.size w w' := by
  have HAW := Lib.hid (fun w => awake_as HC HG w)
  obtain ⟨R, hR⟩ : ∃ R, tx r = R := ⟨_, rfl⟩
  obtain ⟨n, hn⟩ : ∃ n, r.length = n := ⟨_, rfl⟩
  have hs : R.size = n := by rw [← hR, tx_size, hn]
  rw [hR]
  rw [hn] at hbig hr hno
  have HCX := Lib.hid (fun w => HCN e R w he (by rw [hs]; exact hr) (by rw [hs]; omega))
  have HGX := Lib.hid (fun w => HG n w hr)
  rw [show pgN n = 0 by unfold pgN; rw [if_neg (by omega)]] at HGX
  clear hn hR
  unfold maxLen at hr
  go_enter Try.func3, Try.ntmps3
  go_wp2_with fail
  refine (HAW.out _).mono ?_
  rintro en w1 ⟨rfl, hb⟩
  have HB1 := Lib.hid hb
  clear hb
  go_wp2_with fail
  refine (HCX.out _).mono ?_
  rintro en w2 ⟨a1, c1, rfl, hb⟩
  have HB2 := Lib.hid (below_trans HB1.out hb HB1.out.size)
  clear hb
  go_wp2_with fail
  refine (HGX.out _).mono ?_
  rintro en w3 ⟨rfl, hb⟩
  have HB3 := Lib.hid (below_trans HB2.out hb HB2.out.size)
  clear hb
  go_wp2_with fail
  go_ret
  exact ⟨rfl, HB3.out⟩

set_option maxHeartbeats 4000000 in
theorem back_yes {JI : World → Nat → (Nat → Prop) → Jn → Prop} {Z : Array Value} (HJ : Joins JI Z) (HC : CutYes) (HCN : CutNo) (HG : PagesAs) (e : Nat) (r : List UInt8) (hd : Nat) (w : World) (he : e < 4294967296) (hr : r.length ≤ maxLen) (hh : hd < 256) (h1 : 1 ≤ r.length) (h2 : r.length ≤ 4096) :
    Calls Try.prog 3 #[.int .u32 e, .string (tx r), .int .u8 hd] w fun en w' => en = .returned (.bool true) ∧ Below w.heap.size w w' := by
  have HAW := Lib.hid (fun w => awake_as HC HG w)
  obtain ⟨R, hR⟩ : ∃ R, tx r = R := ⟨_, rfl⟩
  obtain ⟨n, hn⟩ : ∃ n, r.length = n := ⟨_, rfl⟩
  have hs : R.size = n := by rw [← hR, tx_size, hn]
  rw [hR]
  have HCY := Lib.hid (fun w => HC e r w he h1 h2)
  rw [hR] at HCY
  have HRX := Lib.hid hR
  have hr4 := h2
  rw [hn] at h1 h2 hr
  have hrn := hn
  have HNP := Lib.hid (show 1 ≤ np r.length by rw [hn]; exact np_pos h1)
  have HGX := Lib.hid (fun w => HG n w hr)
  clear hR hn hr
  go_enter Try.func3, Try.ntmps3
  go_wp2_with fail
  refine (HAW.out _).mono ?_
  rintro en w1 ⟨rfl, hb⟩
  have HB1 := Lib.hid hb
  clear hb
  go_wp2_with fail
  refine (HCY.out _).mono ?_
  rintro en w2 ⟨a1, c1, rfl, he1, hb⟩
  have HB2 := Lib.hid (below_trans HB1.out hb HB1.out.size)
  have HE1 := Lib.hid (he1.wide HB1.out.size)
  clear hb he1
  obtain ⟨N, hN⟩ : ∃ N, np r.length = N := ⟨_, rfl⟩
  rw [hN] at HE1 HNP ⊢
  have HNN := Lib.hid hN
  have hN1 : 0 < N := by have := HNP.out; omega
  have hN84 : N ≤ 84 := by rw [← hN, hrn]; exact np_le h2
  obtain ⟨g, rfl, hg1, hg2⟩ := HE1.out.addr hN1
  have HPG := Lib.hid (show pgN n = N by unfold pgN; rw [if_pos ⟨h1, h2⟩, ← hrn]; exact hN)
  have HRN := Lib.hid hrn
  clear hN hrn
  have hbz := HJ.bz
  have hj0 := HJ.zero w2
  have hb3 : Below w2.heap.size w2 (w2.alloc (.cells Z 32)) := (Below.refl _ _).alloc (Nat.le_refl _) _
  have HP0 := Lib.hid (show BkI JI w e r g N c1 w2.heap.size none (w2.alloc (.cells Z 32)) from
    ⟨below_trans HB2.out hb3 HB2.out.size, HE1.out.below hb3, _, hj0, fun h => by unfold Just at h; omega, fun q hq => by unfold Just at hq; have := HB2.out.size; omega⟩)
  clear hj0 hb3 HE1
  go_wp2_with (first
    | (refine wpList_build_parts (by rfl) 32 [] rfl _ rfl hbz ?_)
    | fail)
  revert HP0
  generalize World.alloc _ _ = w3
  generalize w2.heap.size = b
  intro HP0
  go_loopw [10] (fun i w' => ∃ k : Nat, i = .int .i64 k ∧ k ≤ N ∧ Hid (BkI JI w e r g N c1 b (jn e r k) w')) (fun i _ => 200 - (intOf i).toNat)
  case atStart => exact ⟨0, rfl, Nat.zero_le _, HP0⟩
  case round =>
    obtain ⟨k, rfl, hk, HP⟩ := hrel
    clear HP0
    by_cases hlt : k < N
    · have hk1 : (k : Int) < 200 := by omega
      by_cases hhead : ((k : Int) % 4 == (hd : Int) % 4) = true
      · have HTH := Lib.hid (fun w1 h => take_bk HJ (w := w) (w1 := w1) (e := e) (r := r) (g := g) (N := N) (c := c1) (b := b) (j := jn e r k) hN1 h hd9 (by unfold hd9 Pv.Ok; decide) (by unfold hd9; decide) (by decide))
        obtain ⟨j1, j2, j3, j4⟩ := jt_head (jn e r k) hd9_right rfl
        rw [j1, j2, j3, j4] at HTH
        have hb9 := built_9
        clear j1 j2 j3 j4
        go_wp2_with (first
          | (refine wpList_build_parts (by rfl) 36 [(0, _), (2, _), (5, _)] rfl _ rfl hb9 ?_)
          | fail)
        refine (HTH.out _ HP.out).mono ?_
        rintro en w4 ⟨rfl, h4⟩
        have H4 := Lib.hid h4
        clear h4 HTH hb9
        have hix := fun w => run_ex (n := N) (c := c1) (g := g) (o := 0) (k := k) elt_p hlt w
        rw [Nat.zero_add] at hix
        have hpo := pc_ok (e := e) (r := r) (i := k) he
        have hpl := Nat.le_trans (pc_len (e := e) (HNN.out ▸ hlt)).2 (show 49 ≤ maxLen by decide)
        have HTK := Lib.hid (fun w1 h => take_bk HJ (w := w) (w1 := w1) (e := e) (r := r) (g := g) (N := N) (c := c1) (b := b) (j := jn e r k) hN1 h (pc e r k) hpo hpl wf_2)
        have HRT := Lib.hid (fun w1 => right_any (pc e r k) w1 hpl)
        rw [decide_eq_true (pc_right (HNN.out ▸ hlt))] at HRT
        have HBG := Lib.hid (fun w1 h => begun_bk HJ (w := w) (w1 := w1) (e := e) (r := r) (g := g) (N := N) (c := c1) (b := b) (j := jn e r (k + 1)) h)
        rw [terr_pc hr4 (HNN.out ▸ hlt), ended_pc hr4 (HNN.out ▸ hlt), jn_next hr4 (HNN.out ▸ hlt), HNN.out] at HTK
        rw [jn_some (HNN.out ▸ hlt), HNN.out] at HBG
        clear hpo hpl
        by_cases hD : k + 1 = N
        · have HT := Lib.hid (told_end (e := e) hr4 (HNN.out ▸ hlt) (by rw [HNN.out]; exact hD))
          rw [HT.out, decide_eq_true hD, HRX.out] at HTK
          rw [decide_eq_true hD] at HBG
          have hkN : ((k : Int) == (N : Int) - 1) = true := by rw [beq_iff_eq]; omega
          have HD := Lib.hid hD
          clear hD
          have HAT := Lib.hid (show BkI JI w e r g N c1 b (jn e r k) w4 from H4.out)
          have hrg := HAT.out.2.1.range hlt
          go_wp2_with (first
            | (refine wpList_load_range (by rfl) 36 _ rfl g (k * 6) rfl hrg Try.underlying36 rfl (info_pg rfl) ?_)
            | fail)
          refine (HTK.out _ HAT.out).mono ?_
          rintro en w5 ⟨rfl, h5⟩
          have H5 := Lib.hid h5
          have hrg5 := h5.2.1.range hlt
          clear h5 hrg
          go_wp2_with (first
            | (refine wpList_load_range (by rfl) 36 _ rfl g (k * 6) rfl hrg5 Try.underlying36 rfl (info_pg rfl) ?_)
            | fail)
          refine (HRT.out _).mono ?_
          rintro en w6 ⟨rfl, hb⟩
          have H6 := Lib.hid (BkI.next HJ H5.out hb)
          clear hb hrg5
          go_wp2_with fail
          refine (HBG.out _ H6.out).mono ?_
          rintro en w7 ⟨rfl, h7⟩
          have H7 := Lib.hid h7
          clear h7
          go_wp2_with fail
          go_roundw
          case rel => exact ⟨k + 1, by go_num, by omega, H7⟩
          case measure => simp [intOf]; omega
        · have HT := Lib.hid (told_mid (e := e) hr4 (HNN.out ▸ hlt) (by rw [HNN.out]; exact hD))
          rw [HT.out, decide_eq_false hD] at HTK
          rw [decide_eq_false hD] at HBG
          have hkN : ((k : Int) == (N : Int) - 1) = false := by rw [beq_eq_false_iff_ne]; omega
          have HD := Lib.hid hD
          clear hD
          have HAT := Lib.hid (show BkI JI w e r g N c1 b (jn e r k) w4 from H4.out)
          have hrg := HAT.out.2.1.range hlt
          go_wp2_with (first
            | (refine wpList_load_range (by rfl) 36 _ rfl g (k * 6) rfl hrg Try.underlying36 rfl (info_pg rfl) ?_)
            | fail)
          refine (HTK.out _ HAT.out).mono ?_
          rintro en w5 ⟨rfl, h5⟩
          have H5 := Lib.hid h5
          have hrg5 := h5.2.1.range hlt
          clear h5 hrg
          go_wp2_with (first
            | (refine wpList_load_range (by rfl) 36 _ rfl g (k * 6) rfl hrg5 Try.underlying36 rfl (info_pg rfl) ?_)
            | fail)
          refine (HRT.out _).mono ?_
          rintro en w6 ⟨rfl, hb⟩
          have H6 := Lib.hid (BkI.next HJ H5.out hb)
          clear hb hrg5
          go_wp2_with fail
          refine (HBG.out _ H6.out).mono ?_
          rintro en w7 ⟨rfl, h7⟩
          have H7 := Lib.hid h7
          clear h7
          go_wp2_with fail
          go_roundw
          case rel => exact ⟨k + 1, by go_num, by omega, H7⟩
          case measure => simp [intOf]; omega
      · have hhead' : ((k : Int) % 4 == (hd : Int) % 4) = false := by simpa using hhead
        clear hhead
        have hix := fun w => run_ex (n := N) (c := c1) (g := g) (o := 0) (k := k) elt_p hlt w
        rw [Nat.zero_add] at hix
        have hpo := pc_ok (e := e) (r := r) (i := k) he
        have hpl := Nat.le_trans (pc_len (e := e) (HNN.out ▸ hlt)).2 (show 49 ≤ maxLen by decide)
        have HTK := Lib.hid (fun w1 h => take_bk HJ (w := w) (w1 := w1) (e := e) (r := r) (g := g) (N := N) (c := c1) (b := b) (j := jn e r k) hN1 h (pc e r k) hpo hpl wf_2)
        have HRT := Lib.hid (fun w1 => right_any (pc e r k) w1 hpl)
        rw [decide_eq_true (pc_right (HNN.out ▸ hlt))] at HRT
        have HBG := Lib.hid (fun w1 h => begun_bk HJ (w := w) (w1 := w1) (e := e) (r := r) (g := g) (N := N) (c := c1) (b := b) (j := jn e r (k + 1)) h)
        rw [terr_pc hr4 (HNN.out ▸ hlt), ended_pc hr4 (HNN.out ▸ hlt), jn_next hr4 (HNN.out ▸ hlt), HNN.out] at HTK
        rw [jn_some (HNN.out ▸ hlt), HNN.out] at HBG
        clear hpo hpl
        by_cases hD : k + 1 = N
        · have HT := Lib.hid (told_end (e := e) hr4 (HNN.out ▸ hlt) (by rw [HNN.out]; exact hD))
          rw [HT.out, decide_eq_true hD, HRX.out] at HTK
          rw [decide_eq_true hD] at HBG
          have hkN : ((k : Int) == (N : Int) - 1) = true := by rw [beq_iff_eq]; omega
          have HD := Lib.hid hD
          clear hD
          have HAT := Lib.hid (show BkI JI w e r g N c1 b (jn e r k) wr from HP.out)
          have hrg := HAT.out.2.1.range hlt
          go_wp2_with (first
            | (refine wpList_load_range (by rfl) 36 _ rfl g (k * 6) rfl hrg Try.underlying36 rfl (info_pg rfl) ?_)
            | fail)
          refine (HTK.out _ HAT.out).mono ?_
          rintro en w5 ⟨rfl, h5⟩
          have H5 := Lib.hid h5
          have hrg5 := h5.2.1.range hlt
          clear h5 hrg
          go_wp2_with (first
            | (refine wpList_load_range (by rfl) 36 _ rfl g (k * 6) rfl hrg5 Try.underlying36 rfl (info_pg rfl) ?_)
            | fail)
          refine (HRT.out _).mono ?_
          rintro en w6 ⟨rfl, hb⟩
          have H6 := Lib.hid (BkI.next HJ H5.out hb)
          clear hb hrg5
          go_wp2_with fail
          refine (HBG.out _ H6.out).mono ?_
          rintro en w7 ⟨rfl, h7⟩
          have H7 := Lib.hid h7
          clear h7
          go_wp2_with fail
          go_roundw
          case rel => exact ⟨k + 1, by go_num, by omega, H7⟩
          case measure => simp [intOf]; omega
        · have HT := Lib.hid (told_mid (e := e) hr4 (HNN.out ▸ hlt) (by rw [HNN.out]; exact hD))
          rw [HT.out, decide_eq_false hD] at HTK
          rw [decide_eq_false hD] at HBG
          have hkN : ((k : Int) == (N : Int) - 1) = false := by rw [beq_eq_false_iff_ne]; omega
          have HD := Lib.hid hD
          clear hD
          have HAT := Lib.hid (show BkI JI w e r g N c1 b (jn e r k) wr from HP.out)
          have hrg := HAT.out.2.1.range hlt
          go_wp2_with (first
            | (refine wpList_load_range (by rfl) 36 _ rfl g (k * 6) rfl hrg Try.underlying36 rfl (info_pg rfl) ?_)
            | fail)
          refine (HTK.out _ HAT.out).mono ?_
          rintro en w5 ⟨rfl, h5⟩
          have H5 := Lib.hid h5
          have hrg5 := h5.2.1.range hlt
          clear h5 hrg
          go_wp2_with (first
            | (refine wpList_load_range (by rfl) 36 _ rfl g (k * 6) rfl hrg5 Try.underlying36 rfl (info_pg rfl) ?_)
            | fail)
          refine (HRT.out _).mono ?_
          rintro en w6 ⟨rfl, hb⟩
          have H6 := Lib.hid (BkI.next HJ H5.out hb)
          clear hb hrg5
          go_wp2_with fail
          refine (HBG.out _ H6.out).mono ?_
          rintro en w7 ⟨rfl, h7⟩
          have H7 := Lib.hid h7
          clear h7
          go_wp2_with fail
          go_roundw
          case rel => exact ⟨k + 1, by go_num, by omega, H7⟩
          case measure => simp [intOf]; omega
    · obtain rfl : k = N := by omega
      have HB := Lib.hid HP.out.1
      clear HP
      go_wp2_with fail
      refine (HGX.out _).mono ?_
      rintro en w5 ⟨rfl, hb⟩
      have HB5 := Lib.hid (below_trans HB.out hb HB.out.size)
      clear hb
      rw [HPG.out]
      go_wp2_with fail
      go_ret
      exact ⟨rfl, HB5.out⟩

theorem back_all {JI : World → Nat → (Nat → Prop) → Jn → Prop} {Z : Array Value} (HJ : Joins JI Z) (HC : CutYes) (HCN : CutNo) (HG : PagesAs) (e : Nat) (r : List UInt8) (hd : Nat) (w : World) (he : e < 4294967296) (hr : r.length ≤ maxLen) (hh : hd < 256) :
    Calls Try.prog 3 #[.int .u32 e, .string (tx r), .int .u8 hd] w fun en w' => en = .returned (.bool true) ∧ Below w.heap.size w w' := by
  by_cases hb : 5000 < r.length
  · exact back_big HJ HC HCN HG e r hd w he hr hh hb
  by_cases h1 : r.length < 1
  · exact back_not0 HJ HC HCN HG e r hd w he hr hh hb h1
  by_cases h2 : 4096 < r.length
  · exact back_not1 HJ HC HCN HG e r hd w he hr hh hb h2
  · exact back_yes HJ HC HCN HG e r hd w he hr hh (by omega) (by omega)
end Go.Proofs.Ytmaelcjmojhlpaa.Fg
