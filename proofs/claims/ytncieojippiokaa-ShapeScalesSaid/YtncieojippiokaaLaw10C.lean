/- ShapeScales: the walk. -/
import Derived.Test.YtncieojippiokaaLaw10B
import Derived.Test.YtncieojippiokaaSlB
set_option maxRecDepth 100000
set_option linter.unusedVariables false
namespace Go.Proofs.Ytncieojippiokaa.Sh
open Go.RowKit Go.Proofs.Ytncieojippiokaa.Row

/-- Waves all twice as great; waves with other signs. -/
def tw (x : Nat → Int) (i : Nat) : Int := 2 * x i
def ot (x : Nat → Int) (l : Nat) (t : Nat → Bool) (i : Nat) : Int := if i < l ∧ t i = true then -(x i) else x i
theorem ot_yes {x : Nat → Int} {l : Nat} {t : Nat → Bool} {i : Nat} (h : i < l) (h2 : t i = true) : ot x l t i = -(x i) := if_pos ⟨h, h2⟩
theorem ot_no {x : Nat → Int} {l : Nat} {t : Nat → Bool} {i : Nat} (h : ¬ (i < l ∧ t i = true)) : ot x l t i = x i := if_neg h
theorem sz_tw (x : Nat → Int) : sz (tw x) = fun i => 2 * sz x i := funext fun i => by unfold sz tw; omega
theorem sz_ot (x : Nat → Int) (l : Nat) (t : Nat → Bool) : sz (ot x l t) = sz x := funext fun i => by unfold sz ot; split <;> omega
theorem tw_same (x : Nat → Int) (n k i : Nat) : fS (tw x) n k i = fS x n k i := by
  unfold fS sg
  rw [sz_tw, (fnd_two k).1]
  unfold tw
  by_cases h : x i < 0
  · rw [if_pos h, if_pos (by omega)]
  · rw [if_neg h, if_neg (by omega)]
theorem ot_same (x : Nat → Int) (l : Nat) (t : Nat → Bool) (n k i : Nat) : (fS (ot x l t) n k i).natAbs = (fS x n k i).natAbs := by rw [f_abs, f_abs, sz_ot]
theorem tw_ok (f : Nat → Int) {m : Nat} (h0 : 0 < m) (h8 : m ≤ 8) : okC (tw (wv f)) m = true := (okC_iff _ _).2 ⟨h0, h8, fun i _ => by have := wv_bd f i; unfold tw; omega⟩
theorem ot_ok (f : Nat → Int) (l : Nat) (t : Nat → Bool) {m : Nat} (h0 : 0 < m) (h8 : m ≤ 8) : okC (ot (wv f) l t) m = true := (okC_iff _ _).2 ⟨h0, h8, fun i _ => by have := wv_bd f i; unfold ot; split <;> omega⟩

theorem new_cell (w : World) (x : Int) (f : Nat → Int) (k : Nat) (h : f k = x) : (w.alloc (.cells #[.int .i64 x] 3)).cell? ⟨w.heap.size, 0, none⟩ = some (.int .i64 (f k)) := by
  rw [h]; exact cell_of_row _ _ 0 _ _ _ (At.new w #[.int .i64 x] 3)
theorem new_below (w : World) (x : Int) : Below w.heap.size w (w.alloc (.cells #[.int .i64 x] 3)) := (Below.refl _ _).alloc (Nat.le_refl _) _

theorem shapeScales_none (a d : Option Addr) (c l e : Nat) (f : Nat → Int) (k : Nat) (W : World) (hS : Sl .i64 W a 0 c f) :
    Calls Try.prog 4 #[.slice a 0 c, .int .u8 k, .slice d l e] W fun e w' => e = .returned (.bool true) ∧ Below W.heap.size W w' := by
  have HW := Lib.hid (waves_as a 0 c f W hS fun i hi => absurd hi (Nat.not_lt_zero i))
  clear hS
  go_enter Try.func4, Try.ntmps4
  go_wp2_with fail
  refine HW.out.mono ?_
  rintro e w1 ⟨a', c', rfl, ho, h1⟩
  have HB1 := Lib.hid h1
  clear ho h1 HW
  rw [show min 0 8 = 0 from rfl]
  go_wp2_with fail
  refine (awake_yes _).mono ?_
  rintro e w2 ⟨rfl, h2⟩
  have HB2 := Lib.hid (below_trans HB1.out h2 HB1.out.size)
  clear h2 HB1
  go_wp2_with fail
  refine (awake_yes _).mono ?_
  rintro e w3 ⟨rfl, h3⟩
  go_wp2_with fail
  go_ret
  exact ⟨rfl, below_trans HB2.out h3 HB2.out.size⟩

/-- What stands while three rows of pulses are compared. -/
def T3S (W : World) (g h q n : Nat) (y z v : Nat → Int) (w' : World) : Prop := Below W.heap.size W w' ∧ (∀ i, i < n → w'.cell? ⟨g, i, none⟩ = some (.int .i64 (y i))) ∧ (∀ i, i < n → w'.cell? ⟨h, i, none⟩ = some (.int .i64 (z i))) ∧ ∀ i, i < n → w'.cell? ⟨q, i, none⟩ = some (.int .i64 (v i))
theorem T3S.drewN {W w : World} {g h q n : Nat} {y z v : Nat → Int} (s : T3S W g h q n y z v w) (k : Nat) : T3S W g h q n y z v (w.drewN k) := ⟨below_drewN s.1 k, s.2⟩

set_option maxHeartbeats 1600000 in
theorem shapeScales_some (a d : Option Addr) (n c l e : Nat) (f : Nat → Int) (t : Nat → Bool) (k : Nat) (W : World) (hS : Sl .i64 W a n c f) (hf : ∀ i, i < n → -9223372036854775808 ≤ f i ∧ f i ≤ 9223372036854775807) (h0 : 0 < n) (hk : k ≤ 255) (hT : SlB W d l e t) :
    Calls Try.prog 4 #[.slice a n c, .int .u8 k, .slice d l e] W fun e w' => e = .returned (.bool true) ∧ Below W.heap.size W w' := by
  obtain ⟨m, hm⟩ : ∃ m, min n 8 = m := ⟨_, rfl⟩
  have hm0 : 0 < m := by omega
  have hm8 : m ≤ 8 := by omega
  have HW := Lib.hid (waves_as a n c f W hS hf)
  rw [hm] at HW
  obtain ⟨K, hK⟩ : ∃ K : Nat, (k : Int) % 9 = K := ⟨k % 9, by omega⟩
  have hK8 : K ≤ 8 := by omega
  have HO := Lib.hid (wv_ok f hm0 hm8)
  have HO2 := Lib.hid (tw_ok f hm0 hm8)
  have HO3 := Lib.hid (ot_ok f l t hm0 hm8)
  have hl : l ≤ 9223372036854775807 := by have := hT.1; have := hT.2.1; unfold maxLen at this; omega
  have HT0 := Lib.hid hT
  clear hS hf hm hT
  go_enter Try.func4, Try.ntmps4
  go_wp2_with fail
  refine HW.out.mono ?_
  rintro e w1 ⟨a', c', rfl, ho, h1⟩
  have HS1 := Lib.hid ho.sl
  have HB1 := Lib.hid h1
  have HT1 := Lib.hid (HT0.out.below h1)
  clear ho h1 HW HT0
  have hmz : ((m : Int) == 0) = false := by rw [beq_eq_false_iff_ne]; omega
  have hmm : ((m : Int) != (m : Int)) = false := by simp
  go_wp2_with fail
  refine (awake_yes _).mono ?_
  rintro e w2 ⟨rfl, h2⟩
  have HB2 := Lib.hid (below_trans HB1.out h2 HB1.out.size)
  have HS2 := Lib.hid (HS1.out.below h2)
  have HT2 := Lib.hid (HT1.out.below h2)
  clear h2 HB1 HS1 HT1
  go_wp2_with fail
  go_loopw [8, 9, 10] (fun u v i w' => ∃ (j : Nat) (a1 a2 : Option Addr) (c1 c2 : Nat), j ≤ m ∧ i = .int .i64 j ∧ u = .slice a1 j c1 ∧ v = .slice a2 j c2 ∧ Below w2.heap.size w2 w' ∧ OwnS w' w2.heap.size a1 j c1 (tw (wv f)) ∧ OwnS w' w2.heap.size a2 j c2 (ot (wv f) l t) ∧ Dis a1 a2) (fun _ _ i _ => m - (intOf i).toNat)
  case atStart => exact ⟨0, none, none, 0, 0, Nat.zero_le _, rfl, rfl, rfl, Below.refl _ _, OwnS.nil _ _ _, OwnS.nil _ _ _, dis_nil _⟩
  case round =>
    obtain ⟨j, a1, a2, c1, c2, hj, rfl, rfl, rfl, hb, ho1, ho2, hd⟩ := hrel
    have HB := Lib.hid hb
    have HD := Lib.hid hd
    by_cases hlt : j < m
    · obtain ⟨b, o, rfl, hc⟩ := HS2.out.2.2 hm0
      have c0 := (Below.cell hb (block_lt_of_cell (hc j hlt))).trans (hc j hlt)
      have b1 := wv_bd f j
      have HTW := Lib.hid (show tw (wv f) j = 2 * wv f j from rfl)
      have HOY := Lib.hid (fun h1 h2 => ot_yes (x := wv f) (l := l) (t := t) (i := j) h1 h2)
      have HON := Lib.hid (fun h => ot_no (x := wv f) (l := l) (t := t) (i := j) h)
      obtain ⟨v, hv⟩ : ∃ v, wv f j = v := ⟨_, rfl⟩
      have hvc : w2.cell? ⟨b, o + j, none⟩ = some (.int .i64 v) := by rw [← hv]; exact hc j hlt
      rw [hv] at c0 b1 HTW HOY HON
      have HO1 := Lib.hid (ho1.below (new_below wr (2 * v)))
      have HO2' := Lib.hid (ho2.below (new_below wr (2 * v)))
      have HN1 := Lib.hid (new_cell wr (2 * v) (tw (wv f)) j HTW.out)
      have HBA := Lib.hid (hb.alloc hb.size (.cells #[.int .i64 (2 * v)] 3))
      have HZ1 := Lib.hid HBA.out.size
      have HK1 := Lib.hid (show j + 1 ≤ 1000000000 by omega)
      have HV := Lib.hid (fun w3 (h : Below w2.heap.size (wr.alloc (.cells #[.int .i64 (2 * v)] 3)) w3) => (Below.cell (HBA.out.trans h) (block_lt_of_cell hvc)).trans hvc)
      clear hc hv hb ho1 ho2 hd hvc HTW
      by_cases ht : j < l
      · obtain ⟨b2, o2, rfl, hct⟩ := HT2.out.2.2 (by omega)
        have hct := hct j ht
        obtain ⟨r, hr⟩ : ∃ r, t j = r := ⟨_, rfl⟩
        rw [hr] at hct
        have HCT := Lib.hid (fun w3 (h : Below w2.heap.size (wr.alloc (.cells #[.int .i64 (2 * v)] 3)) w3) => (Below.cell (HBA.out.trans h) (block_lt_of_cell hct)).trans hct)
        clear hct
        have k0 : (0 : Int) ≤ (j : Int) := by omega
        have k1 : (j : Int) < (l : Int) := by omega
        cases r
        · have HE := Lib.hid (HON.out (fun h => by rw [hr] at h; cases h.2))
          clear HOY HON hr
          go_wp2_with (first
            | (at_builtin; refine wpList_append_one rfl (.tmp 35) (.tmp 41) rfl w2.heap.size (tw (wv f)) a1 j c1 rfl HO1.out wr.heap.size rfl HN1.out HK1.out HZ1.out ?_; intro g c3 w3 hg hb2 hgr hat; have HG := Lib.hid (show OwnS w3 w2.heap.size (some ⟨g, 0, none⟩) (j + 1) c3 (tw (wv f)) from .inr ⟨g, rfl, hg⟩); have HOq := Lib.hid (HO2'.out.kept hgr HO1.out.head HD.out); have HD2 := Lib.hid (HD.out.new HO2'.out hat); have HB3 := Lib.hid (HBA.out.trans hb2); have cv := HV.out _ hb2; have ct := HCT.out _ hb2; clear hg hb2 hgr hat; have HG2 := Lib.hid (HG.out.below (new_below w3 (v))); have HOq2 := Lib.hid (HOq.out.below (new_below w3 (v))); have HN2 := Lib.hid (new_cell w3 (v) (ot (wv f) l t) j HE.out); have HB4 := Lib.hid (HB3.out.alloc HB3.out.size (.cells #[.int .i64 (v)] 3)); have HZ2 := Lib.hid HB4.out.size)
            | (at_builtin; refine wpList_append_one rfl (.tmp 61) (.tmp 66) rfl w2.heap.size (ot (wv f) l t) a2 j c2 rfl HOq2.out w3.heap.size rfl HN2.out HK1.out HZ2.out ?_; intro g4 c4 w4 hg4 hb4 hgr4 hat4; have HG4 := Lib.hid (show OwnS w4 w2.heap.size (some ⟨g4, 0, none⟩) (j + 1) c4 (ot (wv f) l t) from .inr ⟨g4, rfl, hg4⟩); have HP4 := Lib.hid (HG2.out.kept hgr4 HOq2.out.head HD2.out.symm); have HD4 := Lib.hid (HD2.out.symm.new HG2.out hat4).symm; have HB5 := Lib.hid (HB4.out.trans hb4); clear hg4 hb4 hgr4 hat4))
          go_roundw
          case rel => exact ⟨j + 1, some ⟨g, 0, none⟩, some ⟨g4, 0, none⟩, c3, c4, by omega, by go_num, rfl, rfl, HB5.out, HP4.out, HG4.out, HD4.out⟩
          case measure => simp [intOf]; omega
        · have HE := Lib.hid (HOY.out ht hr)
          clear HOY HON hr
          go_wp2_with (first
            | (at_builtin; refine wpList_append_one rfl (.tmp 35) (.tmp 41) rfl w2.heap.size (tw (wv f)) a1 j c1 rfl HO1.out wr.heap.size rfl HN1.out HK1.out HZ1.out ?_; intro g c3 w3 hg hb2 hgr hat; have HG := Lib.hid (show OwnS w3 w2.heap.size (some ⟨g, 0, none⟩) (j + 1) c3 (tw (wv f)) from .inr ⟨g, rfl, hg⟩); have HOq := Lib.hid (HO2'.out.kept hgr HO1.out.head HD.out); have HD2 := Lib.hid (HD.out.new HO2'.out hat); have HB3 := Lib.hid (HBA.out.trans hb2); have cv := HV.out _ hb2; have ct := HCT.out _ hb2; clear hg hb2 hgr hat; have HG2 := Lib.hid (HG.out.below (new_below w3 (-v))); have HOq2 := Lib.hid (HOq.out.below (new_below w3 (-v))); have HN2 := Lib.hid (new_cell w3 (-v) (ot (wv f) l t) j HE.out); have HB4 := Lib.hid (HB3.out.alloc HB3.out.size (.cells #[.int .i64 (-v)] 3)); have HZ2 := Lib.hid HB4.out.size)
            | (at_builtin; refine wpList_append_one rfl (.tmp 53) (.tmp 59) rfl w2.heap.size (ot (wv f) l t) a2 j c2 rfl HOq2.out w3.heap.size rfl HN2.out HK1.out HZ2.out ?_; intro g4 c4 w4 hg4 hb4 hgr4 hat4; have HG4 := Lib.hid (show OwnS w4 w2.heap.size (some ⟨g4, 0, none⟩) (j + 1) c4 (ot (wv f) l t) from .inr ⟨g4, rfl, hg4⟩); have HP4 := Lib.hid (HG2.out.kept hgr4 HOq2.out.head HD2.out.symm); have HD4 := Lib.hid (HD2.out.symm.new HG2.out hat4).symm; have HB5 := Lib.hid (HB4.out.trans hb4); clear hg4 hb4 hgr4 hat4))
          go_roundw
          case rel => exact ⟨j + 1, some ⟨g, 0, none⟩, some ⟨g4, 0, none⟩, c3, c4, by omega, by go_num, rfl, rfl, HB5.out, HP4.out, HG4.out, HD4.out⟩
          case measure => simp [intOf]; omega
      · have HE := Lib.hid (HON.out (fun h => ht h.1))
        clear HOY HON
        go_wp2_with (first
          | (at_builtin; refine wpList_append_one rfl (.tmp 35) (.tmp 41) rfl w2.heap.size (tw (wv f)) a1 j c1 rfl HO1.out wr.heap.size rfl HN1.out HK1.out HZ1.out ?_; intro g c3 w3 hg hb2 hgr hat; have HG := Lib.hid (show OwnS w3 w2.heap.size (some ⟨g, 0, none⟩) (j + 1) c3 (tw (wv f)) from .inr ⟨g, rfl, hg⟩); have HOq := Lib.hid (HO2'.out.kept hgr HO1.out.head HD.out); have HD2 := Lib.hid (HD.out.new HO2'.out hat); have HB3 := Lib.hid (HBA.out.trans hb2); have cv := HV.out _ hb2; clear hg hb2 hgr hat; have HG2 := Lib.hid (HG.out.below (new_below w3 (v))); have HOq2 := Lib.hid (HOq.out.below (new_below w3 (v))); have HN2 := Lib.hid (new_cell w3 (v) (ot (wv f) l t) j HE.out); have HB4 := Lib.hid (HB3.out.alloc HB3.out.size (.cells #[.int .i64 (v)] 3)); have HZ2 := Lib.hid HB4.out.size)
          | (at_builtin; refine wpList_append_one rfl (.tmp 61) (.tmp 66) rfl w2.heap.size (ot (wv f) l t) a2 j c2 rfl HOq2.out w3.heap.size rfl HN2.out HK1.out HZ2.out ?_; intro g4 c4 w4 hg4 hb4 hgr4 hat4; have HG4 := Lib.hid (show OwnS w4 w2.heap.size (some ⟨g4, 0, none⟩) (j + 1) c4 (ot (wv f) l t) from .inr ⟨g4, rfl, hg4⟩); have HP4 := Lib.hid (HG2.out.kept hgr4 HOq2.out.head HD2.out.symm); have HD4 := Lib.hid (HD2.out.symm.new HG2.out hat4).symm; have HB5 := Lib.hid (HB4.out.trans hb4); clear hg4 hb4 hgr4 hat4))
        go_roundw
        case rel => exact ⟨j + 1, some ⟨g, 0, none⟩, some ⟨g4, 0, none⟩, c3, c4, by omega, by go_num, rfl, rfl, HB5.out, HP4.out, HG4.out, HD4.out⟩
        case measure => simp [intOf]; omega
    · obtain rfl : j = m := by omega
      have HSX := Lib.hid (HS2.out.below hb)
      have HY2 := Lib.hid ho1.sl
      have HY3 := Lib.hid ho2.sl
      have HB3 := Lib.hid (below_trans HB2.out hb HB2.out.size)
      clear hb ho1 ho2 hd HB HD HT2 HB2 HS2
      obtain ⟨w3, hw3⟩ : ∃ w3, wr = w3 := ⟨_, rfl⟩
      rw [hw3] at HSX HY2 HY3 HB3 ⊢
      clear hw3
      go_wp2_with fail
      rw [hK]
      clear hK
      refine (find_yes a' j c' K (wv f) _ HSX.out HO.out hK8).mono ?_
      rintro e w4 ⟨g, U, rfl, hg, hU, hA, h4⟩
      have HB4 := Lib.hid (below_trans HB3.out h4 HB3.out.size)
      have HY2b := Lib.hid (HY2.out.below h4)
      have HY3b := Lib.hid (HY3.out.below h4)
      have HU := Lib.hid hU
      have HA := Lib.hid hA
      clear hg hU hA h4 HSX HY2 HY3 HB3
      go_wp2_with fail
      refine (find_yes a1 j c1 K (tw (wv f)) _ HY2b.out HO2.out hK8).mono ?_
      rintro e w5 ⟨h, V, rfl, hg, hV, hA2, h5⟩
      have HB5 := Lib.hid (below_trans HB4.out h5 HB4.out.size)
      have HY3c := Lib.hid (HY3b.out.below h5)
      have HV := Lib.hid hV
      have HA2 := Lib.hid hA2
      have HA' := Lib.hid (HA.out.below h5 HA.out.lt)
      clear hg hV hA2 h5 HY2b HY3b HB4 HA
      go_wp2_with fail
      refine (find_yes a2 j c2 K (ot (wv f) l t) _ HY3c.out HO3.out hK8).mono ?_
      rintro e w6 ⟨q, Q, rfl, hg, hQ, hA3, h6⟩
      have HT := Lib.hid (show T3S W g h q j (fS (wv f) j K) (fS (tw (wv f)) j K) (fS (ot (wv f) l t) j K) w6 from ⟨below_trans HB5.out h6 HB5.out.size, fun i hi => HU.out.cell (HA'.out.below h6 HA'.out.lt) i hi, fun i hi => HV.out.cell (HA2.out.below h6 HA2.out.lt) i hi, fun i hi => hQ.cell hA3 i hi⟩)
      clear hg hQ hA3 h6 HY3c HB5 HU HA' HV HA2
      go_wp2_with fail
      go_loopw [18] (fun i w' => ∃ p : Nat, p ≤ j ∧ i = .int .i64 p ∧ T3S W g h q j (fS (wv f) j K) (fS (tw (wv f)) j K) (fS (ot (wv f) l t) j K) w') (fun i _ => j - (intOf i).toNat)
      case atStart => exact ⟨0, Nat.zero_le _, rfl, HT.out⟩
      case round =>
        obtain ⟨p, hp, rfl, ht⟩ := hrel
        have HTT := Lib.hid ht
        clear ht HT
        by_cases hlt2 : p < j
        · have d0 := HTT.out.2.1 p hlt2
          have d1 := HTT.out.2.2.1 p hlt2
          have d2 := HTT.out.2.2.2 p hlt2
          rw [tw_same] at d1
          have e1 := ot_same (wv f) l t j K p
          have e2 := f_bd (wv f) j K p
          obtain ⟨y, hy⟩ : ∃ y, fS (wv f) j K p = y := ⟨_, rfl⟩
          obtain ⟨z, hz⟩ : ∃ z, fS (ot (wv f) l t) j K p = z := ⟨_, rfl⟩
          rw [hy] at d0 d1 e1 e2
          rw [hz] at d2 e1
          obtain ⟨u, hu⟩ : ∃ u, y.natAbs = u := ⟨_, rfl⟩
          rw [hu] at e1
          have y1 : -8 ≤ y ∧ y ≤ 8 := by omega
          have z1 : -8 ≤ z ∧ z ≤ 8 := by omega
          have M1 := run_max2 y u (maxabs hu)
          have M2 := run_max2 z u (maxabs e1)
          have q1 : (y != y) = false := by simp
          have q2 : ((u : Int) != (u : Int)) = false := by simp
          have k0 : (0 : Int) ≤ (p : Int) := by omega
          have k1 : (p : Int) < (j : Int) := by omega
          clear hy hz hu e1 e2
          go_wp2_with fail
          go_quiet (fail)
          go_wp2_with fail
          go_roundw
          case rel => exact ⟨p + 1, by omega, by go_num, HTT.out.drewN _⟩
          case measure => simp [intOf]; omega
        · obtain rfl : p = j := by omega
          go_wp2_with fail
          go_ret
          exact ⟨rfl, HTT.out.1⟩

theorem shapeScales_any (a d : Option Addr) (n c l e : Nat) (f : Nat → Int) (t : Nat → Bool) (k : Int) (W : World) (hS : Sl .i64 W a n c f) (hf : ∀ i, i < n → (Lit.int .i64 (f i)).wf = true) (w1 : (Lit.int .u8 k).wf = true) (hT : SlB W d l e t) :
    Calls Try.prog 4 #[.slice a n c, .int .u8 k, .slice d l e] W fun e w' => e = .returned (.bool true) ∧ Below W.heap.size W w' := by
  obtain ⟨k, rfl, hk⟩ := u8_bd w1
  by_cases h0 : n = 0
  · subst h0; exact shapeScales_none a d c l e f k W hS
  · exact shapeScales_some a d n c l e f t k W hS (i64_all hf) (by omega) hk hT
end Go.Proofs.Ytncieojippiokaa.Sh
