/- The statements' walks of layer 6, third part: LevelSigns. -/
import Derived.Test.YtlnmpgbknalagaaDoorLaw06B
import Derived.Test.YtlnmpgbknalagaaDoorRowMvQ
namespace Go.Proofs.YtlnmpgbknalagaaDoor.Lv
open Go.RowKit Go.Proofs.YtlnmpgbknalagaaDoor.Row

theorem levelSigns_long (l : Int) (a : Option Addr) (n c : Nat) (w : World) (hTab : Tab w) (hn : 8 < n) (hm : n ≤ maxLen) :
    Calls Tryd.prog 8 #[.int .u8 l, .slice a n c] w fun e w' => e = .returned (.bool true) ∧ Below w.heap.size w w' := by
  unfold maxLen at hm
  have HT := Lib.hid hTab
  clear hTab
  go_enter Tryd.func8, Tryd.ntmps8
  go_wp2_with fail
  refine (awake_in _ w HT.out (Below.refl _ _)).mono ?_
  rintro e w1 ⟨rfl, hb1, ht1⟩
  have HB1 := Lib.hid hb1
  have HT1 := Lib.hid ht1
  clear hb1 ht1
  go_wp2_with fail
  refine (awake_in _ w HT1.out HB1.out).mono ?_
  rintro e w2 ⟨rfl, hb2, ht2⟩
  have HB2 := Lib.hid hb2
  clear hb2 ht2
  go_wp2
  go_ret
  exact ⟨rfl, HB2.out⟩

theorem new_cell (w : World) (q r : Int) (h : r = q) : (w.alloc (.cells #[.int .i64 q] 3)).cell? ⟨w.heap.size, 0, none⟩ = some (.int .i64 r) := by
  rw [h]; exact cell_of_row _ _ 0 _ _ _ (At.new w #[.int .i64 q] 3)

/-- What holds while the pulses are laid out, and their negatives. -/
def SgS (w : World) (y : Nat → Int) (k : Nat) (a : Option Addr) (c : Nat) (a' : Option Addr) (c' : Nat) (w' : World) : Prop :=
  Below w.heap.size w w' ∧ OwnS w' w.heap.size a k c (pS y) ∧ OwnS w' w.heap.size a' k c' (nS y) ∧ Dis a a'

set_option maxRecDepth 100000 in
set_option maxHeartbeats 1000000 in
theorem levelSigns_some (l : Int) (b o n c : Nat) (y : Nat → Int) (w : World) (hTab : Tab w) (hl : 0 ≤ l ∧ l ≤ 255) (h0 : 0 < n) (h8 : n ≤ 8)
    (hc : ∀ i, i < n → w.cell? ⟨b, o + i, none⟩ = some (.int .i8 (y i))) (hy : ∀ i, i < n → -128 ≤ y i ∧ y i ≤ 127) :
    Calls Tryd.prog 8 #[.int .u8 l, .slice (some ⟨b, o, none⟩) n c] w fun e w' => e = .returned (.bool true) ∧ Below w.heap.size w w' := by
  obtain ⟨l0, l1⟩ := hl
  have HT := Lib.hid hTab
  have HC := Lib.hid hc
  have HY := Lib.hid hy
  clear hTab hc hy
  go_enter Tryd.func8, Tryd.ntmps8
  go_wp2_with fail
  refine (awake_in _ w HT.out (Below.refl _ _)).mono ?_
  rintro e w1 ⟨rfl, hb1, ht1⟩
  have HB1 := Lib.hid hb1
  clear hb1 ht1
  go_wp2
  obtain ⟨r, hr⟩ : ∃ r, l % 20 = r := ⟨_, rfl⟩
  have r0 : 0 ≤ r := by omega
  have r1 : r ≤ 19 := by omega
  rw [hr]
  clear hr l0 l1
  go_loopw [6, 7, 8] (fun p q i w' => ∃ (k : Nat) (a : Option Addr) (c : Nat) (a' : Option Addr) (c' : Nat), k ≤ n ∧ i = .int .i64 k ∧ p = .slice a k c ∧ q = .slice a' k c' ∧ SgS w y k a c a' c' w') (fun _ _ i _ => n - (intOf i).toNat)
  case atStart => exact ⟨0, none, 0, none, 0, Nat.zero_le _, rfl, rfl, rfl, HB1.out, OwnS.nil _ _ _, OwnS.nil _ _ _, dis_nil _⟩
  case round =>
    obtain ⟨k, a, c1, a', c2, hk, rfl, rfl, rfl, hs⟩ := hrel
    have HS := Lib.hid hs
    clear hs
    by_cases hlt : k < n
    · have c0 := (Below.cell HS.out.1 (block_lt_of_cell (HC.out k hlt))).trans (HC.out k hlt)
      obtain ⟨y1, y2⟩ := HY.out k hlt
      obtain ⟨q1, q2⟩ := pS_bd y k
      have HP := Lib.hid (show pS y k = (y k).tmod 9 from rfl)
      have HN := Lib.hid (show nS y k = -pS y k from rfl)
      obtain ⟨x, hx⟩ : ∃ x, y k = x := ⟨_, rfl⟩
      rw [hx] at c0 y1 y2 HP
      obtain ⟨q, hq⟩ : ∃ q, pS y k = q := ⟨_, rfl⟩
      have HQ := Lib.hid hq
      rw [hq] at q1 q2 HP HN
      have hxq : x.tmod 9 = q := HP.out.symm
      clear hx hq
      have ha : Below wr.heap.size wr (wr.alloc (.cells #[.int .i64 q] 3)) := (Below.refl _ _).alloc (Nat.le_refl _) _
      have HO1 := Lib.hid (HS.out.2.1.below ha)
      have HO2 := Lib.hid (HS.out.2.2.1.below ha)
      have HD := Lib.hid HS.out.2.2.2
      have HN1 := Lib.hid (show (wr.alloc (.cells #[.int .i64 q] 3)).cell? ⟨wr.heap.size, 0, none⟩ = some (.int .i64 (pS y k)) by rw [HQ.out]; exact cell_of_row _ _ 0 _ _ _ (At.new wr #[.int .i64 q] 3))
      have HB2 := Lib.hid (HS.out.1.alloc HS.out.1.size (.cells #[.int .i64 q] 3))
      have HZ1 := Lib.hid HB2.out.size
      have HK1 := Lib.hid (show k + 1 ≤ 1000000000 by omega)
      clear ha HS
      go_wp2_with (first
        | (at_builtin; refine wpList_append_one rfl (.tmp 30) (.tmp 37) rfl w.heap.size (pS y) a k c1 rfl HO1.out wr.heap.size rfl HN1.out HK1.out HZ1.out ?_; intro g c3 w2 hg hb2 hgr hat; have HG := Lib.hid (show OwnS w2 w.heap.size (some ⟨g, 0, none⟩) (k + 1) c3 (pS y) from .inr ⟨g, rfl, hg⟩); have HOq := Lib.hid (HO2.out.kept hgr HO1.out.head HD.out); have HD2 := Lib.hid (HD.out.new HO2.out hat); have HB3 := Lib.hid (HB2.out.trans hb2); have cg : w2.cell? ⟨g, k, none⟩ = some (.int .i64 q) := (HQ.out ▸ hg.cell k (Nat.lt_succ_self k)); clear hg hb2 hgr hat HO1 HO2 HD HN1 HB2 HZ1; have ha2 : Below w2.heap.size w2 (w2.alloc (.cells #[.int .i64 (-q)] 3)) := (Below.refl _ _).alloc (Nat.le_refl _) _; have HG2 := Lib.hid (HG.out.below ha2); have HOq2 := Lib.hid (HOq.out.below ha2); have HN2 := Lib.hid (new_cell w2 (-q) (nS y k) HN.out); have HB4 := Lib.hid (HB3.out.alloc HB3.out.size (.cells #[.int .i64 (-q)] 3)); have HZ2 := Lib.hid HB4.out.size; clear ha2)
        | (at_builtin; refine wpList_append_one rfl (.tmp 39) (.tmp 45) rfl w.heap.size (nS y) a' k c2 rfl HOq2.out w2.heap.size rfl HN2.out HK1.out HZ2.out ?_; intro g4 c4 w4 hg4 hb4 hgr4 hat4; have HG4 := Lib.hid (show OwnS w4 w.heap.size (some ⟨g4, 0, none⟩) (k + 1) c4 (nS y) from .inr ⟨g4, rfl, hg4⟩); have HP4 := Lib.hid (HG2.out.kept hgr4 HOq2.out.head HD2.out.symm); have HD4 := Lib.hid (HD2.out.symm.new HG2.out hat4).symm; have HB5 := Lib.hid (HB4.out.trans hb4); clear hg4 hb4 hgr4 hat4))
      go_roundw
      case rel => exact ⟨k + 1, some ⟨g, 0, none⟩, c3, some ⟨g4, 0, none⟩, c4, by omega, by go_num, rfl, rfl, HB5.out, HP4.out, HG4.out, HD4.out⟩
      case measure => simp [intOf]; omega
    · obtain rfl : k = n := by omega
      obtain ⟨g, rfl, hG⟩ := HS.out.2.1.pos h0
      obtain ⟨g', rfl, hG'⟩ := HS.out.2.2.1.pos h0
      have HG := Lib.hid hG
      have CA := Lib.hid (fun w (h : Sl .i64 w (some ⟨g, 0, none⟩) k c1 (pS y)) => fill_any r (some ⟨g, 0, none⟩) k c1 (pS y) w h (by omega))
      have CB := Lib.hid (fun w (h : Sl .i64 w (some ⟨g', 0, none⟩) k c2 (nS y)) => fill_any r (some ⟨g', 0, none⟩) k c2 (nS y) w h (by omega))
      have CC := Lib.hid (fun w (h : Sl .i64 w (some ⟨g, 0, none⟩) k c1 (pS y)) => fill_any (r + 1) (some ⟨g, 0, none⟩) k c1 (pS y) w h (by omega))
      have S0 := Lib.hid hG.sl
      have S1 := Lib.hid hG'.sl
      have HB := Lib.hid HS.out.1
      clear hG hG' HS
      go_wp2_with fail
      refine (CA.out _ S0.out).mono ?_
      rintro e w2 ⟨gA, UA, rfl, hgA, hUA, hAA, hw2⟩
      have RA := Lib.hid hUA
      have AA := Lib.hid hAA
      have S02 := Lib.hid (S0.out.below hw2)
      have S12 := Lib.hid (S1.out.below hw2)
      have HB2 := Lib.hid (below_trans HB.out hw2 HB.out.size)
      clear hgA hUA hAA hw2 S0 S1 HB CA HG
      go_wp2_with fail
      refine (CB.out _ S12.out).mono ?_
      rintro e w3 ⟨gB, UB, rfl, hgB, hUB, hAB, hw3⟩
      have RB := Lib.hid hUB
      have AB := Lib.hid hAB
      have AA3 := Lib.hid (AA.out.below hw3 AA.out.lt)
      have S03 := Lib.hid (S02.out.below hw3)
      have HB3 := Lib.hid (below_trans HB2.out hw3 HB2.out.size)
      clear hgB hUB hAB hw3 S02 S12 HB2 AA CB
      go_wp2_with fail
      refine (CC.out _ S03.out).mono ?_
      rintro e w4 ⟨gC, UC, rfl, hgC, hUC, hAC, hw4⟩
      have RC := Lib.hid hUC
      have AC := Lib.hid hAC
      have AA4 := Lib.hid (AA3.out.below hw4 AA3.out.lt)
      have AB4 := Lib.hid (AB.out.below hw4 AB.out.lt)
      have HB4 := Lib.hid (below_trans HB3.out hw4 HB3.out.size)
      clear hgC hUC hAC hw4 S03 HB3 AA3 AB CC
      go_wp2
      go_loopw [12] (fun i w' => ∃ j : Nat, j ≤ k ∧ i = .int .i64 j ∧ Below w4.heap.size w4 w') (fun i _ => k - (intOf i).toNat)
      case atStart => exact ⟨0, Nat.zero_le _, rfl, Below.refl _ _⟩
      case round =>
        obtain ⟨j, hj, rfl, hb⟩ := hrel
        have HB5 := Lib.hid hb
        clear hb
        by_cases hjk : j < k
        · have cA := RA.out.cell (AA4.out.below HB5.out AA4.out.lt) j hjk
          have cB := RB.out.cell (AB4.out.below HB5.out AB4.out.lt) j hjk
          have cC := RC.out.cell (AC.out.below HB5.out AC.out.lt) j hjk
          have eN := fl_neg r y k j
          obtain ⟨x1, x2⟩ := fl_bd r (pS y) k j hjk
          obtain ⟨z1, z2⟩ := fl_bd r (nS y) k j hjk
          obtain ⟨v1, v2⟩ := fl_bd (r + 1) (pS y) k j hjk
          have eM := fl_more r (pS y) k j
          obtain ⟨x, hx⟩ : ∃ x, fl r (pS y) k j = x := ⟨_, rfl⟩
          obtain ⟨z, hz⟩ : ∃ z, fl r (nS y) k j = z := ⟨_, rfl⟩
          obtain ⟨v, hv⟩ : ∃ v, fl (r + 1) (pS y) k j = v := ⟨_, rfl⟩
          rw [hx] at cA eN x1 x2 eM
          rw [hz] at cB eN z1 z2
          rw [hv] at cC v1 v2 eM
          obtain ⟨ux, hux⟩ : ∃ u, uns x = u := ⟨_, rfl⟩
          obtain ⟨uv, huv⟩ : ∃ u, uns v = u := ⟨_, rfl⟩
          have mx := Lv.run_max2 x ux hux
          have mv := Lv.run_max2 v uv huv
          rw [hux, huv] at eM
          have u1 : 0 ≤ ux := by rw [← hux]; exact uns_nonneg x
          have u2 : ux ≤ 25165824 := by rw [← hux]; unfold uns; omega
          have eb : (x != -z) = false := by rw [eN]; simp
          have j0 : (0 : Int) ≤ (j : Int) := by omega
          have j1 : (j : Int) < (k : Int) := by omega
          have w1 : IntKind.i64.wrap (-x) = -x := IntWalk.i64_in _ (by omega)
          have w2 : IntKind.i64.wrap (-z) = -z := IntWalk.i64_in _ (by omega)
          have w3 : IntKind.i64.wrap (-v) = -v := IntWalk.i64_in _ (by omega)
          have w5 : IntKind.i64.wrap (2 * ux) = 2 * ux := IntWalk.i64_in _ (by omega)
          have w6 : IntKind.i64.wrap (2 * ux + 1) = 2 * ux + 1 := IntWalk.i64_in _ (by omega)
          clear hx hz hv eN mx mv j0 j1
          have hux : max x (-x) = ux := hux
          have huv : max v (-v) = uv := huv
          have HUX := Lib.hid hux
          have HUV := Lib.hid huv
          have HEB := Lib.hid eb
          have HW1 := Lib.hid w1
          have HW2 := Lib.hid w2
          have HW3 := Lib.hid w3
          have HW5 := Lib.hid w5
          have HW6 := Lib.hid w6
          clear hux huv eb w1 w2 w3 w5 w6
          go_wp2_with fail
          refine mv_start fun hS => ?_
          by_cases hr0 : r = 0
          · have d0 : decide (0 < r) = false := by rw [decide_eq_false_iff_not]; omega
            refine mv_yield (i := 0) (d := 63) (.slice (some ⟨gA, 0, none⟩) k k) rfl rfl (by kernel_rfl) (by kernel_rfl) (by kernel_rfl) hS (y_run (by rfl) fun _ => by rfl) ?_
            simp only [Act.put, List.setIfInBounds_toArray, List.set_cons_zero, List.set_cons_succ]
            refine mv_yield (i := 1) (d := 64) (.int .i64 ((k : Int))) rfl rfl (by kernel_rfl) (by kernel_rfl) (by kernel_rfl) hS (y_len (by rfl) rfl Tryd.underlying23 rfl) ?_
            simp only [Act.put, List.setIfInBounds_toArray, List.set_cons_zero, List.set_cons_succ]
            refine mv_yield (i := 2) (d := 65) (.slice (some ⟨g, 0, none⟩) k c1) rfl rfl (by kernel_rfl) (by kernel_rfl) (by kernel_rfl) hS (y_run (by rfl) fun _ => by rfl) ?_
            simp only [Act.put, List.setIfInBounds_toArray, List.set_cons_zero, List.set_cons_succ]
            refine mv_yield (i := 3) (d := 66) (.int .i64 ((k : Int))) rfl rfl (by kernel_rfl) (by kernel_rfl) (by kernel_rfl) hS (y_len (by rfl) rfl Tryd.underlying23 rfl) ?_
            simp only [Act.put, List.setIfInBounds_toArray, List.set_cons_zero, List.set_cons_succ]
            refine mv_yield (i := 4) (d := 67) (.bool false) rfl rfl (by kernel_rfl) (by kernel_rfl) (by kernel_rfl) hS (y_nei (by rfl) rfl rfl rfl (by simp)) ?_
            simp only [Act.put, List.setIfInBounds_toArray, List.set_cons_zero, List.set_cons_succ]
            refine mv_yield (i := 5) (d := 68) (.bool false) rfl rfl (by kernel_rfl) (by kernel_rfl) (by kernel_rfl) hS (y_run (by rfl) fun _ => by rfl) ?_
            simp only [Act.put, List.setIfInBounds_toArray, List.set_cons_zero, List.set_cons_succ]
            refine mv_yield (i := 6) (d := 69) (.slice (some ⟨gA, 0, none⟩) k k) rfl rfl (by kernel_rfl) (by kernel_rfl) (by kernel_rfl) hS (y_run (by rfl) fun _ => by rfl) ?_
            simp only [Act.put, List.setIfInBounds_toArray, List.set_cons_zero, List.set_cons_succ]
            refine mv_yield (i := 7) (d := 70) (.int .i64 ((j : Int))) rfl rfl (by kernel_rfl) (by kernel_rfl) (by kernel_rfl) hS (y_run (by rfl) fun _ => by rfl) ?_
            simp only [Act.put, List.setIfInBounds_toArray, List.set_cons_zero, List.set_cons_succ]
            refine mv_yield (i := 8) (d := 71) (.pointer (some ⟨gA, j, none⟩)) rfl rfl (by kernel_rfl) (by kernel_rfl) (by kernel_rfl) hS (y_ix (k := j) (by rfl) rfl rfl rfl rfl (Nat.zero_add j) hjk) ?_
            simp only [Act.put, List.setIfInBounds_toArray, List.set_cons_zero, List.set_cons_succ]
            refine mv_yield (i := 9) (d := 72) (.int .i64 x) rfl rfl (by kernel_rfl) (by kernel_rfl) (by kernel_rfl) hS (y_cell (by rfl) rfl rfl cA) ?_
            simp only [Act.put, List.setIfInBounds_toArray, List.set_cons_zero, List.set_cons_succ]
            refine mv_yield (i := 10) (d := 73) (.slice (some ⟨gB, 0, none⟩) k k) rfl rfl (by kernel_rfl) (by kernel_rfl) (by kernel_rfl) hS (y_run (by rfl) fun _ => by rfl) ?_
            simp only [Act.put, List.setIfInBounds_toArray, List.set_cons_zero, List.set_cons_succ]
            refine mv_yield (i := 11) (d := 74) (.int .i64 ((j : Int))) rfl rfl (by kernel_rfl) (by kernel_rfl) (by kernel_rfl) hS (y_run (by rfl) fun _ => by rfl) ?_
            simp only [Act.put, List.setIfInBounds_toArray, List.set_cons_zero, List.set_cons_succ]
            refine mv_yield (i := 12) (d := 75) (.pointer (some ⟨gB, j, none⟩)) rfl rfl (by kernel_rfl) (by kernel_rfl) (by kernel_rfl) hS (y_ix (k := j) (by rfl) rfl rfl rfl rfl (Nat.zero_add j) hjk) ?_
            simp only [Act.put, List.setIfInBounds_toArray, List.set_cons_zero, List.set_cons_succ]
            refine mv_yield (i := 13) (d := 76) (.int .i64 z) rfl rfl (by kernel_rfl) (by kernel_rfl) (by kernel_rfl) hS (y_cell (by rfl) rfl rfl cB) ?_
            simp only [Act.put, List.setIfInBounds_toArray, List.set_cons_zero, List.set_cons_succ]
            refine mv_yield (i := 14) (d := 77) (.int .i64 ((-z))) rfl rfl (by kernel_rfl) (by kernel_rfl) (by kernel_rfl) hS (y_neg (by rfl) rfl rfl HW2.out) ?_
            simp only [Act.put, List.setIfInBounds_toArray, List.set_cons_zero, List.set_cons_succ]
            refine mv_yield (i := 15) (d := 78) (.bool false) rfl rfl (by kernel_rfl) (by kernel_rfl) (by kernel_rfl) hS (y_nei (by rfl) rfl rfl rfl HEB.out) ?_
            simp only [Act.put, List.setIfInBounds_toArray, List.set_cons_zero, List.set_cons_succ]
            refine mv_yield (i := 16) (d := 79) (.bool false) rfl rfl (by kernel_rfl) (by kernel_rfl) (by kernel_rfl) hS (y_run (by rfl) fun _ => by rfl) ?_
            simp only [Act.put, List.setIfInBounds_toArray, List.set_cons_zero, List.set_cons_succ]
            refine mv_yield (i := 17) (d := 80) (.bool false) rfl rfl (by kernel_rfl) (by kernel_rfl) (by kernel_rfl) hS (y_run (by rfl) fun _ => by rfl) ?_
            simp only [Act.put, List.setIfInBounds_toArray, List.set_cons_zero, List.set_cons_succ]
            refine mv_yield (i := 18) (d := 81) (.int .i64 r) rfl rfl (by kernel_rfl) (by kernel_rfl) (by kernel_rfl) hS (y_run (by rfl) fun _ => by rfl) ?_
            simp only [Act.put, List.setIfInBounds_toArray, List.set_cons_zero, List.set_cons_succ]
            refine mv_yield (i := 19) (d := 82) (.bool false) rfl rfl (by kernel_rfl) (by kernel_rfl) (by kernel_rfl) hS (y_gtr (by rfl) rfl rfl rfl d0) ?_
            simp only [Act.put, List.setIfInBounds_toArray, List.set_cons_zero, List.set_cons_succ]
            refine mv_yield (i := 20) (d := 83) (.bool false) rfl rfl (by kernel_rfl) (by kernel_rfl) (by kernel_rfl) hS (y_run (by rfl) fun _ => by rfl) ?_
            simp only [Act.put, List.setIfInBounds_toArray, List.set_cons_zero, List.set_cons_succ]
            refine mv_yield (i := 21) (d := 84) undef rfl rfl (by kernel_rfl) (by kernel_rfl) (by kernel_rfl) hS (y_skip (by rfl)) ?_
            simp only [Act.put, List.setIfInBounds_toArray, List.set_cons_zero, List.set_cons_succ]
            refine mv_yield (i := 22) (d := 85) undef rfl rfl (by kernel_rfl) (by kernel_rfl) (by kernel_rfl) hS (y_skip (by rfl)) ?_
            simp only [Act.put, List.setIfInBounds_toArray, List.set_cons_zero, List.set_cons_succ]
            refine mv_yield (i := 23) (d := 86) undef rfl rfl (by kernel_rfl) (by kernel_rfl) (by kernel_rfl) hS (y_skip (by rfl)) ?_
            simp only [Act.put, List.setIfInBounds_toArray, List.set_cons_zero, List.set_cons_succ]
            refine mv_yield (i := 24) (d := 87) undef rfl rfl (by kernel_rfl) (by kernel_rfl) (by kernel_rfl) hS (y_skip (by rfl)) ?_
            simp only [Act.put, List.setIfInBounds_toArray, List.set_cons_zero, List.set_cons_succ]
            refine mv_yield (i := 25) (d := 88) undef rfl rfl (by kernel_rfl) (by kernel_rfl) (by kernel_rfl) hS (y_skip (by rfl)) ?_
            simp only [Act.put, List.setIfInBounds_toArray, List.set_cons_zero, List.set_cons_succ]
            refine mv_yield (i := 26) (d := 89) undef rfl rfl (by kernel_rfl) (by kernel_rfl) (by kernel_rfl) hS (y_skip (by rfl)) ?_
            simp only [Act.put, List.setIfInBounds_toArray, List.set_cons_zero, List.set_cons_succ]
            refine mv_yield (i := 27) (d := 90) undef rfl rfl (by kernel_rfl) (by kernel_rfl) (by kernel_rfl) hS (y_skip (by rfl)) ?_
            simp only [Act.put, List.setIfInBounds_toArray, List.set_cons_zero, List.set_cons_succ]
            refine mv_yield (i := 28) (d := 91) undef rfl rfl (by kernel_rfl) (by kernel_rfl) (by kernel_rfl) hS (y_skip (by rfl)) ?_
            simp only [Act.put, List.setIfInBounds_toArray, List.set_cons_zero, List.set_cons_succ]
            refine mv_yield (i := 29) (d := 92) undef rfl rfl (by kernel_rfl) (by kernel_rfl) (by kernel_rfl) hS (y_skip (by rfl)) ?_
            simp only [Act.put, List.setIfInBounds_toArray, List.set_cons_zero, List.set_cons_succ]
            refine mv_yield (i := 30) (d := 93) undef rfl rfl (by kernel_rfl) (by kernel_rfl) (by kernel_rfl) hS (y_skip (by rfl)) ?_
            simp only [Act.put, List.setIfInBounds_toArray, List.set_cons_zero, List.set_cons_succ]
            refine mv_yield (i := 31) (d := 94) undef rfl rfl (by kernel_rfl) (by kernel_rfl) (by kernel_rfl) hS (y_skip (by rfl)) ?_
            simp only [Act.put, List.setIfInBounds_toArray, List.set_cons_zero, List.set_cons_succ]
            refine mv_yield (i := 32) (d := 95) undef rfl rfl (by kernel_rfl) (by kernel_rfl) (by kernel_rfl) hS (y_skip (by rfl)) ?_
            simp only [Act.put, List.setIfInBounds_toArray, List.set_cons_zero, List.set_cons_succ]
            refine mv_yield (i := 33) (d := 96) undef rfl rfl (by kernel_rfl) (by kernel_rfl) (by kernel_rfl) hS (y_skip (by rfl)) ?_
            simp only [Act.put, List.setIfInBounds_toArray, List.set_cons_zero, List.set_cons_succ]
            refine mv_yield (i := 34) (d := 97) undef rfl rfl (by kernel_rfl) (by kernel_rfl) (by kernel_rfl) hS (y_skip (by rfl)) ?_
            simp only [Act.put, List.setIfInBounds_toArray, List.set_cons_zero, List.set_cons_succ]
            refine mv_yield (i := 35) (d := 98) undef rfl rfl (by kernel_rfl) (by kernel_rfl) (by kernel_rfl) hS (y_skip (by rfl)) ?_
            simp only [Act.put, List.setIfInBounds_toArray, List.set_cons_zero, List.set_cons_succ]
            refine mv_yield (i := 36) (d := 99) undef rfl rfl (by kernel_rfl) (by kernel_rfl) (by kernel_rfl) hS (y_skip (by rfl)) ?_
            simp only [Act.put, List.setIfInBounds_toArray, List.set_cons_zero, List.set_cons_succ]
            refine mv_yield (i := 37) (d := 100) undef rfl rfl (by kernel_rfl) (by kernel_rfl) (by kernel_rfl) hS (y_skip (by rfl)) ?_
            simp only [Act.put, List.setIfInBounds_toArray, List.set_cons_zero, List.set_cons_succ]
            refine mv_yield (i := 38) (d := 101) undef rfl rfl (by kernel_rfl) (by kernel_rfl) (by kernel_rfl) hS (y_skip (by rfl)) ?_
            simp only [Act.put, List.setIfInBounds_toArray, List.set_cons_zero, List.set_cons_succ]
            refine mv_yield (i := 39) (d := 102) undef rfl rfl (by kernel_rfl) (by kernel_rfl) (by kernel_rfl) hS (y_skip (by rfl)) ?_
            simp only [Act.put, List.setIfInBounds_toArray, List.set_cons_zero, List.set_cons_succ]
            refine mv_yield (i := 40) (d := 103) undef rfl rfl (by kernel_rfl) (by kernel_rfl) (by kernel_rfl) hS (y_skip (by rfl)) ?_
            simp only [Act.put, List.setIfInBounds_toArray, List.set_cons_zero, List.set_cons_succ]
            refine mv_yield (i := 41) (d := 104) undef rfl rfl (by kernel_rfl) (by kernel_rfl) (by kernel_rfl) hS (y_skip (by rfl)) ?_
            simp only [Act.put, List.setIfInBounds_toArray, List.set_cons_zero, List.set_cons_succ]
            refine mv_yield (i := 42) (d := 105) undef rfl rfl (by kernel_rfl) (by kernel_rfl) (by kernel_rfl) hS (y_skip (by rfl)) ?_
            simp only [Act.put, List.setIfInBounds_toArray, List.set_cons_zero, List.set_cons_succ]
            refine mv_yield (i := 43) (d := 106) undef rfl rfl (by kernel_rfl) (by kernel_rfl) (by kernel_rfl) hS (y_skip (by rfl)) ?_
            simp only [Act.put, List.setIfInBounds_toArray, List.set_cons_zero, List.set_cons_succ]
            refine mv_yield (i := 44) (d := 107) undef rfl rfl (by kernel_rfl) (by kernel_rfl) (by kernel_rfl) hS (y_skip (by rfl)) ?_
            simp only [Act.put, List.setIfInBounds_toArray, List.set_cons_zero, List.set_cons_succ]
            refine mv_yield (i := 45) (d := 108) undef rfl rfl (by kernel_rfl) (by kernel_rfl) (by kernel_rfl) hS (y_skip (by rfl)) ?_
            simp only [Act.put, List.setIfInBounds_toArray, List.set_cons_zero, List.set_cons_succ]
            refine mv_yield (i := 46) (d := 109) undef rfl rfl (by kernel_rfl) (by kernel_rfl) (by kernel_rfl) hS (y_skip (by rfl)) ?_
            simp only [Act.put, List.setIfInBounds_toArray, List.set_cons_zero, List.set_cons_succ]
            refine mv_yield (i := 47) (d := 110) undef rfl rfl (by kernel_rfl) (by kernel_rfl) (by kernel_rfl) hS (y_skip (by rfl)) ?_
            simp only [Act.put, List.setIfInBounds_toArray, List.set_cons_zero, List.set_cons_succ]
            refine mv_yield (i := 48) (d := 111) undef rfl rfl (by kernel_rfl) (by kernel_rfl) (by kernel_rfl) hS (y_skip (by rfl)) ?_
            simp only [Act.put, List.setIfInBounds_toArray, List.set_cons_zero, List.set_cons_succ]
            refine mv_yield (i := 49) (d := 112) undef rfl rfl (by kernel_rfl) (by kernel_rfl) (by kernel_rfl) hS (y_skip (by rfl)) ?_
            simp only [Act.put, List.setIfInBounds_toArray, List.set_cons_zero, List.set_cons_succ]
            refine mv_yield (i := 50) (d := 113) undef rfl rfl (by kernel_rfl) (by kernel_rfl) (by kernel_rfl) hS (y_skip (by rfl)) ?_
            simp only [Act.put, List.setIfInBounds_toArray, List.set_cons_zero, List.set_cons_succ]
            refine mv_yield (i := 51) (d := 114) undef rfl rfl (by kernel_rfl) (by kernel_rfl) (by kernel_rfl) hS (y_skip (by rfl)) ?_
            simp only [Act.put, List.setIfInBounds_toArray, List.set_cons_zero, List.set_cons_succ]
            refine mv_yield (i := 52) (d := 115) undef rfl rfl (by kernel_rfl) (by kernel_rfl) (by kernel_rfl) hS (y_skip (by rfl)) ?_
            simp only [Act.put, List.setIfInBounds_toArray, List.set_cons_zero, List.set_cons_succ]
            refine mv_yield (i := 53) (d := 116) undef rfl rfl (by kernel_rfl) (by kernel_rfl) (by kernel_rfl) hS (y_skip (by rfl)) ?_
            simp only [Act.put, List.setIfInBounds_toArray, List.set_cons_zero, List.set_cons_succ]
            refine mv_yield (i := 54) (d := 117) undef rfl rfl (by kernel_rfl) (by kernel_rfl) (by kernel_rfl) hS (y_skip (by rfl)) ?_
            simp only [Act.put, List.setIfInBounds_toArray, List.set_cons_zero, List.set_cons_succ]
            refine mv_yield (i := 55) (d := 118) undef rfl rfl (by kernel_rfl) (by kernel_rfl) (by kernel_rfl) hS (y_skip (by rfl)) ?_
            simp only [Act.put, List.setIfInBounds_toArray, List.set_cons_zero, List.set_cons_succ]
            refine mv_yield (i := 56) (d := 119) undef rfl rfl (by kernel_rfl) (by kernel_rfl) (by kernel_rfl) hS (y_skip (by rfl)) ?_
            simp only [Act.put, List.setIfInBounds_toArray, List.set_cons_zero, List.set_cons_succ]
            refine mv_yield (i := 57) (d := 120) undef rfl rfl (by kernel_rfl) (by kernel_rfl) (by kernel_rfl) hS (y_skip (by rfl)) ?_
            simp only [Act.put, List.setIfInBounds_toArray, List.set_cons_zero, List.set_cons_succ]
            refine mv_yield (i := 58) (d := 121) undef rfl rfl (by kernel_rfl) (by kernel_rfl) (by kernel_rfl) hS (y_skip (by rfl)) ?_
            simp only [Act.put, List.setIfInBounds_toArray, List.set_cons_zero, List.set_cons_succ]
            refine mv_yield (i := 59) (d := 122) undef rfl rfl (by kernel_rfl) (by kernel_rfl) (by kernel_rfl) hS (y_skip (by rfl)) ?_
            simp only [Act.put, List.setIfInBounds_toArray, List.set_cons_zero, List.set_cons_succ]
            refine mv_yield (i := 60) (d := 123) undef rfl rfl (by kernel_rfl) (by kernel_rfl) (by kernel_rfl) hS (y_skip (by rfl)) ?_
            simp only [Act.put, List.setIfInBounds_toArray, List.set_cons_zero, List.set_cons_succ]
            refine mv_yield (i := 61) (d := 124) undef rfl rfl (by kernel_rfl) (by kernel_rfl) (by kernel_rfl) hS (y_skip (by rfl)) ?_
            simp only [Act.put, List.setIfInBounds_toArray, List.set_cons_zero, List.set_cons_succ]
            refine mv_yield (i := 62) (d := 125) undef rfl rfl (by kernel_rfl) (by kernel_rfl) (by kernel_rfl) hS (y_skip (by rfl)) ?_
            simp only [Act.put, List.setIfInBounds_toArray, List.set_cons_zero, List.set_cons_succ]
            refine mv_yield (i := 63) (d := 126) undef rfl rfl (by kernel_rfl) (by kernel_rfl) (by kernel_rfl) hS (y_skip (by rfl)) ?_
            simp only [Act.put, List.setIfInBounds_toArray, List.set_cons_zero, List.set_cons_succ]
            refine mv_yield (i := 64) (d := 127) undef rfl rfl (by kernel_rfl) (by kernel_rfl) (by kernel_rfl) hS (y_skip (by rfl)) ?_
            simp only [Act.put, List.setIfInBounds_toArray, List.set_cons_zero, List.set_cons_succ]
            refine mv_yield (i := 65) (d := 128) undef rfl rfl (by kernel_rfl) (by kernel_rfl) (by kernel_rfl) hS (y_skip (by rfl)) ?_
            simp only [Act.put, List.setIfInBounds_toArray, List.set_cons_zero, List.set_cons_succ]
            refine mv_yield (i := 66) (d := 129) undef rfl rfl (by kernel_rfl) (by kernel_rfl) (by kernel_rfl) hS (y_skip (by rfl)) ?_
            simp only [Act.put, List.setIfInBounds_toArray, List.set_cons_zero, List.set_cons_succ]
            refine mv_yield (i := 67) (d := 130) undef rfl rfl (by kernel_rfl) (by kernel_rfl) (by kernel_rfl) hS (y_skip (by rfl)) ?_
            simp only [Act.put, List.setIfInBounds_toArray, List.set_cons_zero, List.set_cons_succ]
            refine mv_yield (i := 68) (d := 131) (.bool false) rfl rfl (by kernel_rfl) (by kernel_rfl) (by kernel_rfl) hS (y_run (by rfl) fun _ => by rfl) ?_
            simp only [Act.put, List.setIfInBounds_toArray, List.set_cons_zero, List.set_cons_succ]
            refine mv_yield (i := 69) (d := 132) (.bool false) rfl rfl (by kernel_rfl) (by kernel_rfl) (by kernel_rfl) hS (y_run (by rfl) fun _ => by rfl) ?_
            simp only [Act.put, List.setIfInBounds_toArray, List.set_cons_zero, List.set_cons_succ]
            refine mv_done (by kernel_rfl) ?_
            clear d0 eM
            go_wp2
            go_roundw
            case rel => exact ⟨j + 1, by omega, by go_num, HB5.out.drew⟩
            case measure => simp [intOf]; omega
          · obtain ⟨m1, m2⟩ := eM (by omega) (by omega)
            have d0 : decide (0 < r) = true := by rw [decide_eq_true_eq]; omega
            have d1 : decide (uv < 2 * ux) = false := by rw [decide_eq_false_iff_not]; omega
            have d2 : decide (2 * ux + 1 < uv) = false := by rw [decide_eq_false_iff_not]; omega
            refine mv_yield (i := 0) (d := 63) (.slice (some ⟨gA, 0, none⟩) k k) rfl rfl (by kernel_rfl) (by kernel_rfl) (by kernel_rfl) hS (y_run (by rfl) fun _ => by rfl) ?_
            simp only [Act.put, List.setIfInBounds_toArray, List.set_cons_zero, List.set_cons_succ]
            refine mv_yield (i := 1) (d := 64) (.int .i64 ((k : Int))) rfl rfl (by kernel_rfl) (by kernel_rfl) (by kernel_rfl) hS (y_len (by rfl) rfl Tryd.underlying23 rfl) ?_
            simp only [Act.put, List.setIfInBounds_toArray, List.set_cons_zero, List.set_cons_succ]
            refine mv_yield (i := 2) (d := 65) (.slice (some ⟨g, 0, none⟩) k c1) rfl rfl (by kernel_rfl) (by kernel_rfl) (by kernel_rfl) hS (y_run (by rfl) fun _ => by rfl) ?_
            simp only [Act.put, List.setIfInBounds_toArray, List.set_cons_zero, List.set_cons_succ]
            refine mv_yield (i := 3) (d := 66) (.int .i64 ((k : Int))) rfl rfl (by kernel_rfl) (by kernel_rfl) (by kernel_rfl) hS (y_len (by rfl) rfl Tryd.underlying23 rfl) ?_
            simp only [Act.put, List.setIfInBounds_toArray, List.set_cons_zero, List.set_cons_succ]
            refine mv_yield (i := 4) (d := 67) (.bool false) rfl rfl (by kernel_rfl) (by kernel_rfl) (by kernel_rfl) hS (y_nei (by rfl) rfl rfl rfl (by simp)) ?_
            simp only [Act.put, List.setIfInBounds_toArray, List.set_cons_zero, List.set_cons_succ]
            refine mv_yield (i := 5) (d := 68) (.bool false) rfl rfl (by kernel_rfl) (by kernel_rfl) (by kernel_rfl) hS (y_run (by rfl) fun _ => by rfl) ?_
            simp only [Act.put, List.setIfInBounds_toArray, List.set_cons_zero, List.set_cons_succ]
            refine mv_yield (i := 6) (d := 69) (.slice (some ⟨gA, 0, none⟩) k k) rfl rfl (by kernel_rfl) (by kernel_rfl) (by kernel_rfl) hS (y_run (by rfl) fun _ => by rfl) ?_
            simp only [Act.put, List.setIfInBounds_toArray, List.set_cons_zero, List.set_cons_succ]
            refine mv_yield (i := 7) (d := 70) (.int .i64 ((j : Int))) rfl rfl (by kernel_rfl) (by kernel_rfl) (by kernel_rfl) hS (y_run (by rfl) fun _ => by rfl) ?_
            simp only [Act.put, List.setIfInBounds_toArray, List.set_cons_zero, List.set_cons_succ]
            refine mv_yield (i := 8) (d := 71) (.pointer (some ⟨gA, j, none⟩)) rfl rfl (by kernel_rfl) (by kernel_rfl) (by kernel_rfl) hS (y_ix (k := j) (by rfl) rfl rfl rfl rfl (Nat.zero_add j) hjk) ?_
            simp only [Act.put, List.setIfInBounds_toArray, List.set_cons_zero, List.set_cons_succ]
            refine mv_yield (i := 9) (d := 72) (.int .i64 x) rfl rfl (by kernel_rfl) (by kernel_rfl) (by kernel_rfl) hS (y_cell (by rfl) rfl rfl cA) ?_
            simp only [Act.put, List.setIfInBounds_toArray, List.set_cons_zero, List.set_cons_succ]
            refine mv_yield (i := 10) (d := 73) (.slice (some ⟨gB, 0, none⟩) k k) rfl rfl (by kernel_rfl) (by kernel_rfl) (by kernel_rfl) hS (y_run (by rfl) fun _ => by rfl) ?_
            simp only [Act.put, List.setIfInBounds_toArray, List.set_cons_zero, List.set_cons_succ]
            refine mv_yield (i := 11) (d := 74) (.int .i64 ((j : Int))) rfl rfl (by kernel_rfl) (by kernel_rfl) (by kernel_rfl) hS (y_run (by rfl) fun _ => by rfl) ?_
            simp only [Act.put, List.setIfInBounds_toArray, List.set_cons_zero, List.set_cons_succ]
            refine mv_yield (i := 12) (d := 75) (.pointer (some ⟨gB, j, none⟩)) rfl rfl (by kernel_rfl) (by kernel_rfl) (by kernel_rfl) hS (y_ix (k := j) (by rfl) rfl rfl rfl rfl (Nat.zero_add j) hjk) ?_
            simp only [Act.put, List.setIfInBounds_toArray, List.set_cons_zero, List.set_cons_succ]
            refine mv_yield (i := 13) (d := 76) (.int .i64 z) rfl rfl (by kernel_rfl) (by kernel_rfl) (by kernel_rfl) hS (y_cell (by rfl) rfl rfl cB) ?_
            simp only [Act.put, List.setIfInBounds_toArray, List.set_cons_zero, List.set_cons_succ]
            refine mv_yield (i := 14) (d := 77) (.int .i64 ((-z))) rfl rfl (by kernel_rfl) (by kernel_rfl) (by kernel_rfl) hS (y_neg (by rfl) rfl rfl HW2.out) ?_
            simp only [Act.put, List.setIfInBounds_toArray, List.set_cons_zero, List.set_cons_succ]
            refine mv_yield (i := 15) (d := 78) (.bool false) rfl rfl (by kernel_rfl) (by kernel_rfl) (by kernel_rfl) hS (y_nei (by rfl) rfl rfl rfl HEB.out) ?_
            simp only [Act.put, List.setIfInBounds_toArray, List.set_cons_zero, List.set_cons_succ]
            refine mv_yield (i := 16) (d := 79) (.bool false) rfl rfl (by kernel_rfl) (by kernel_rfl) (by kernel_rfl) hS (y_run (by rfl) fun _ => by rfl) ?_
            simp only [Act.put, List.setIfInBounds_toArray, List.set_cons_zero, List.set_cons_succ]
            refine mv_yield (i := 17) (d := 80) (.bool false) rfl rfl (by kernel_rfl) (by kernel_rfl) (by kernel_rfl) hS (y_run (by rfl) fun _ => by rfl) ?_
            simp only [Act.put, List.setIfInBounds_toArray, List.set_cons_zero, List.set_cons_succ]
            refine mv_yield (i := 18) (d := 81) (.int .i64 r) rfl rfl (by kernel_rfl) (by kernel_rfl) (by kernel_rfl) hS (y_run (by rfl) fun _ => by rfl) ?_
            simp only [Act.put, List.setIfInBounds_toArray, List.set_cons_zero, List.set_cons_succ]
            refine mv_yield (i := 19) (d := 82) (.bool true) rfl rfl (by kernel_rfl) (by kernel_rfl) (by kernel_rfl) hS (y_gtr (by rfl) rfl rfl rfl d0) ?_
            simp only [Act.put, List.setIfInBounds_toArray, List.set_cons_zero, List.set_cons_succ]
            refine mv_yield (i := 20) (d := 83) (.bool true) rfl rfl (by kernel_rfl) (by kernel_rfl) (by kernel_rfl) hS (y_run (by rfl) fun _ => by rfl) ?_
            simp only [Act.put, List.setIfInBounds_toArray, List.set_cons_zero, List.set_cons_succ]
            refine mv_yield (i := 21) (d := 84) (.slice (some ⟨gC, 0, none⟩) k k) rfl rfl (by kernel_rfl) (by kernel_rfl) (by kernel_rfl) hS (y_run (by rfl) fun _ => by rfl) ?_
            simp only [Act.put, List.setIfInBounds_toArray, List.set_cons_zero, List.set_cons_succ]
            refine mv_yield (i := 22) (d := 85) (.int .i64 ((j : Int))) rfl rfl (by kernel_rfl) (by kernel_rfl) (by kernel_rfl) hS (y_run (by rfl) fun _ => by rfl) ?_
            simp only [Act.put, List.setIfInBounds_toArray, List.set_cons_zero, List.set_cons_succ]
            refine mv_yield (i := 23) (d := 86) (.pointer (some ⟨gC, j, none⟩)) rfl rfl (by kernel_rfl) (by kernel_rfl) (by kernel_rfl) hS (y_ix (k := j) (by rfl) rfl rfl rfl rfl (Nat.zero_add j) hjk) ?_
            simp only [Act.put, List.setIfInBounds_toArray, List.set_cons_zero, List.set_cons_succ]
            refine mv_yield (i := 24) (d := 87) (.int .i64 v) rfl rfl (by kernel_rfl) (by kernel_rfl) (by kernel_rfl) hS (y_cell (by rfl) rfl rfl cC) ?_
            simp only [Act.put, List.setIfInBounds_toArray, List.set_cons_zero, List.set_cons_succ]
            refine mv_yield (i := 25) (d := 88) (.slice (some ⟨gC, 0, none⟩) k k) rfl rfl (by kernel_rfl) (by kernel_rfl) (by kernel_rfl) hS (y_run (by rfl) fun _ => by rfl) ?_
            simp only [Act.put, List.setIfInBounds_toArray, List.set_cons_zero, List.set_cons_succ]
            refine mv_yield (i := 26) (d := 89) (.int .i64 ((j : Int))) rfl rfl (by kernel_rfl) (by kernel_rfl) (by kernel_rfl) hS (y_run (by rfl) fun _ => by rfl) ?_
            simp only [Act.put, List.setIfInBounds_toArray, List.set_cons_zero, List.set_cons_succ]
            refine mv_yield (i := 27) (d := 90) (.pointer (some ⟨gC, j, none⟩)) rfl rfl (by kernel_rfl) (by kernel_rfl) (by kernel_rfl) hS (y_ix (k := j) (by rfl) rfl rfl rfl rfl (Nat.zero_add j) hjk) ?_
            simp only [Act.put, List.setIfInBounds_toArray, List.set_cons_zero, List.set_cons_succ]
            refine mv_yield (i := 28) (d := 91) (.int .i64 v) rfl rfl (by kernel_rfl) (by kernel_rfl) (by kernel_rfl) hS (y_cell (by rfl) rfl rfl cC) ?_
            simp only [Act.put, List.setIfInBounds_toArray, List.set_cons_zero, List.set_cons_succ]
            refine mv_yield (i := 29) (d := 92) (.int .i64 ((-v))) rfl rfl (by kernel_rfl) (by kernel_rfl) (by kernel_rfl) hS (y_neg (by rfl) rfl rfl HW3.out) ?_
            simp only [Act.put, List.setIfInBounds_toArray, List.set_cons_zero, List.set_cons_succ]
            refine mv_yield (i := 30) (d := 93) (.int .i64 uv) rfl rfl (by kernel_rfl) (by kernel_rfl) (by kernel_rfl) hS (y_abs (by rfl) rfl rfl rfl rfl HUV.out) ?_
            simp only [Act.put, List.setIfInBounds_toArray, List.set_cons_zero, List.set_cons_succ]
            refine mv_yield (i := 31) (d := 94) (.slice (some ⟨gA, 0, none⟩) k k) rfl rfl (by kernel_rfl) (by kernel_rfl) (by kernel_rfl) hS (y_run (by rfl) fun _ => by rfl) ?_
            simp only [Act.put, List.setIfInBounds_toArray, List.set_cons_zero, List.set_cons_succ]
            refine mv_yield (i := 32) (d := 95) (.int .i64 ((j : Int))) rfl rfl (by kernel_rfl) (by kernel_rfl) (by kernel_rfl) hS (y_run (by rfl) fun _ => by rfl) ?_
            simp only [Act.put, List.setIfInBounds_toArray, List.set_cons_zero, List.set_cons_succ]
            refine mv_yield (i := 33) (d := 96) (.pointer (some ⟨gA, j, none⟩)) rfl rfl (by kernel_rfl) (by kernel_rfl) (by kernel_rfl) hS (y_ix (k := j) (by rfl) rfl rfl rfl rfl (Nat.zero_add j) hjk) ?_
            simp only [Act.put, List.setIfInBounds_toArray, List.set_cons_zero, List.set_cons_succ]
            refine mv_yield (i := 34) (d := 97) (.int .i64 x) rfl rfl (by kernel_rfl) (by kernel_rfl) (by kernel_rfl) hS (y_cell (by rfl) rfl rfl cA) ?_
            simp only [Act.put, List.setIfInBounds_toArray, List.set_cons_zero, List.set_cons_succ]
            refine mv_yield (i := 35) (d := 98) (.slice (some ⟨gA, 0, none⟩) k k) rfl rfl (by kernel_rfl) (by kernel_rfl) (by kernel_rfl) hS (y_run (by rfl) fun _ => by rfl) ?_
            simp only [Act.put, List.setIfInBounds_toArray, List.set_cons_zero, List.set_cons_succ]
            refine mv_yield (i := 36) (d := 99) (.int .i64 ((j : Int))) rfl rfl (by kernel_rfl) (by kernel_rfl) (by kernel_rfl) hS (y_run (by rfl) fun _ => by rfl) ?_
            simp only [Act.put, List.setIfInBounds_toArray, List.set_cons_zero, List.set_cons_succ]
            refine mv_yield (i := 37) (d := 100) (.pointer (some ⟨gA, j, none⟩)) rfl rfl (by kernel_rfl) (by kernel_rfl) (by kernel_rfl) hS (y_ix (k := j) (by rfl) rfl rfl rfl rfl (Nat.zero_add j) hjk) ?_
            simp only [Act.put, List.setIfInBounds_toArray, List.set_cons_zero, List.set_cons_succ]
            refine mv_yield (i := 38) (d := 101) (.int .i64 x) rfl rfl (by kernel_rfl) (by kernel_rfl) (by kernel_rfl) hS (y_cell (by rfl) rfl rfl cA) ?_
            simp only [Act.put, List.setIfInBounds_toArray, List.set_cons_zero, List.set_cons_succ]
            refine mv_yield (i := 39) (d := 102) (.int .i64 ((-x))) rfl rfl (by kernel_rfl) (by kernel_rfl) (by kernel_rfl) hS (y_neg (by rfl) rfl rfl HW1.out) ?_
            simp only [Act.put, List.setIfInBounds_toArray, List.set_cons_zero, List.set_cons_succ]
            refine mv_yield (i := 40) (d := 103) (.int .i64 ux) rfl rfl (by kernel_rfl) (by kernel_rfl) (by kernel_rfl) hS (y_abs (by rfl) rfl rfl rfl rfl HUX.out) ?_
            simp only [Act.put, List.setIfInBounds_toArray, List.set_cons_zero, List.set_cons_succ]
            refine mv_yield (i := 41) (d := 104) (.int .i64 ((2 * ux))) rfl rfl (by kernel_rfl) (by kernel_rfl) (by kernel_rfl) hS (y_mul (by rfl) rfl rfl rfl HW5.out) ?_
            simp only [Act.put, List.setIfInBounds_toArray, List.set_cons_zero, List.set_cons_succ]
            refine mv_yield (i := 42) (d := 105) (.bool false) rfl rfl (by kernel_rfl) (by kernel_rfl) (by kernel_rfl) hS (y_lss (by rfl) rfl rfl rfl d1) ?_
            simp only [Act.put, List.setIfInBounds_toArray, List.set_cons_zero, List.set_cons_succ]
            refine mv_yield (i := 43) (d := 106) (.bool false) rfl rfl (by kernel_rfl) (by kernel_rfl) (by kernel_rfl) hS (y_run (by rfl) fun _ => by rfl) ?_
            simp only [Act.put, List.setIfInBounds_toArray, List.set_cons_zero, List.set_cons_succ]
            refine mv_yield (i := 44) (d := 107) (.slice (some ⟨gC, 0, none⟩) k k) rfl rfl (by kernel_rfl) (by kernel_rfl) (by kernel_rfl) hS (y_run (by rfl) fun _ => by rfl) ?_
            simp only [Act.put, List.setIfInBounds_toArray, List.set_cons_zero, List.set_cons_succ]
            refine mv_yield (i := 45) (d := 108) (.int .i64 ((j : Int))) rfl rfl (by kernel_rfl) (by kernel_rfl) (by kernel_rfl) hS (y_run (by rfl) fun _ => by rfl) ?_
            simp only [Act.put, List.setIfInBounds_toArray, List.set_cons_zero, List.set_cons_succ]
            refine mv_yield (i := 46) (d := 109) (.pointer (some ⟨gC, j, none⟩)) rfl rfl (by kernel_rfl) (by kernel_rfl) (by kernel_rfl) hS (y_ix (k := j) (by rfl) rfl rfl rfl rfl (Nat.zero_add j) hjk) ?_
            simp only [Act.put, List.setIfInBounds_toArray, List.set_cons_zero, List.set_cons_succ]
            refine mv_yield (i := 47) (d := 110) (.int .i64 v) rfl rfl (by kernel_rfl) (by kernel_rfl) (by kernel_rfl) hS (y_cell (by rfl) rfl rfl cC) ?_
            simp only [Act.put, List.setIfInBounds_toArray, List.set_cons_zero, List.set_cons_succ]
            refine mv_yield (i := 48) (d := 111) (.slice (some ⟨gC, 0, none⟩) k k) rfl rfl (by kernel_rfl) (by kernel_rfl) (by kernel_rfl) hS (y_run (by rfl) fun _ => by rfl) ?_
            simp only [Act.put, List.setIfInBounds_toArray, List.set_cons_zero, List.set_cons_succ]
            refine mv_yield (i := 49) (d := 112) (.int .i64 ((j : Int))) rfl rfl (by kernel_rfl) (by kernel_rfl) (by kernel_rfl) hS (y_run (by rfl) fun _ => by rfl) ?_
            simp only [Act.put, List.setIfInBounds_toArray, List.set_cons_zero, List.set_cons_succ]
            refine mv_yield (i := 50) (d := 113) (.pointer (some ⟨gC, j, none⟩)) rfl rfl (by kernel_rfl) (by kernel_rfl) (by kernel_rfl) hS (y_ix (k := j) (by rfl) rfl rfl rfl rfl (Nat.zero_add j) hjk) ?_
            simp only [Act.put, List.setIfInBounds_toArray, List.set_cons_zero, List.set_cons_succ]
            refine mv_yield (i := 51) (d := 114) (.int .i64 v) rfl rfl (by kernel_rfl) (by kernel_rfl) (by kernel_rfl) hS (y_cell (by rfl) rfl rfl cC) ?_
            simp only [Act.put, List.setIfInBounds_toArray, List.set_cons_zero, List.set_cons_succ]
            refine mv_yield (i := 52) (d := 115) (.int .i64 ((-v))) rfl rfl (by kernel_rfl) (by kernel_rfl) (by kernel_rfl) hS (y_neg (by rfl) rfl rfl HW3.out) ?_
            simp only [Act.put, List.setIfInBounds_toArray, List.set_cons_zero, List.set_cons_succ]
            refine mv_yield (i := 53) (d := 116) (.int .i64 uv) rfl rfl (by kernel_rfl) (by kernel_rfl) (by kernel_rfl) hS (y_abs (by rfl) rfl rfl rfl rfl HUV.out) ?_
            simp only [Act.put, List.setIfInBounds_toArray, List.set_cons_zero, List.set_cons_succ]
            refine mv_yield (i := 54) (d := 117) (.slice (some ⟨gA, 0, none⟩) k k) rfl rfl (by kernel_rfl) (by kernel_rfl) (by kernel_rfl) hS (y_run (by rfl) fun _ => by rfl) ?_
            simp only [Act.put, List.setIfInBounds_toArray, List.set_cons_zero, List.set_cons_succ]
            refine mv_yield (i := 55) (d := 118) (.int .i64 ((j : Int))) rfl rfl (by kernel_rfl) (by kernel_rfl) (by kernel_rfl) hS (y_run (by rfl) fun _ => by rfl) ?_
            simp only [Act.put, List.setIfInBounds_toArray, List.set_cons_zero, List.set_cons_succ]
            refine mv_yield (i := 56) (d := 119) (.pointer (some ⟨gA, j, none⟩)) rfl rfl (by kernel_rfl) (by kernel_rfl) (by kernel_rfl) hS (y_ix (k := j) (by rfl) rfl rfl rfl rfl (Nat.zero_add j) hjk) ?_
            simp only [Act.put, List.setIfInBounds_toArray, List.set_cons_zero, List.set_cons_succ]
            refine mv_yield (i := 57) (d := 120) (.int .i64 x) rfl rfl (by kernel_rfl) (by kernel_rfl) (by kernel_rfl) hS (y_cell (by rfl) rfl rfl cA) ?_
            simp only [Act.put, List.setIfInBounds_toArray, List.set_cons_zero, List.set_cons_succ]
            refine mv_yield (i := 58) (d := 121) (.slice (some ⟨gA, 0, none⟩) k k) rfl rfl (by kernel_rfl) (by kernel_rfl) (by kernel_rfl) hS (y_run (by rfl) fun _ => by rfl) ?_
            simp only [Act.put, List.setIfInBounds_toArray, List.set_cons_zero, List.set_cons_succ]
            refine mv_yield (i := 59) (d := 122) (.int .i64 ((j : Int))) rfl rfl (by kernel_rfl) (by kernel_rfl) (by kernel_rfl) hS (y_run (by rfl) fun _ => by rfl) ?_
            simp only [Act.put, List.setIfInBounds_toArray, List.set_cons_zero, List.set_cons_succ]
            refine mv_yield (i := 60) (d := 123) (.pointer (some ⟨gA, j, none⟩)) rfl rfl (by kernel_rfl) (by kernel_rfl) (by kernel_rfl) hS (y_ix (k := j) (by rfl) rfl rfl rfl rfl (Nat.zero_add j) hjk) ?_
            simp only [Act.put, List.setIfInBounds_toArray, List.set_cons_zero, List.set_cons_succ]
            refine mv_yield (i := 61) (d := 124) (.int .i64 x) rfl rfl (by kernel_rfl) (by kernel_rfl) (by kernel_rfl) hS (y_cell (by rfl) rfl rfl cA) ?_
            simp only [Act.put, List.setIfInBounds_toArray, List.set_cons_zero, List.set_cons_succ]
            refine mv_yield (i := 62) (d := 125) (.int .i64 ((-x))) rfl rfl (by kernel_rfl) (by kernel_rfl) (by kernel_rfl) hS (y_neg (by rfl) rfl rfl HW1.out) ?_
            simp only [Act.put, List.setIfInBounds_toArray, List.set_cons_zero, List.set_cons_succ]
            refine mv_yield (i := 63) (d := 126) (.int .i64 ux) rfl rfl (by kernel_rfl) (by kernel_rfl) (by kernel_rfl) hS (y_abs (by rfl) rfl rfl rfl rfl HUX.out) ?_
            simp only [Act.put, List.setIfInBounds_toArray, List.set_cons_zero, List.set_cons_succ]
            refine mv_yield (i := 64) (d := 127) (.int .i64 ((2 * ux))) rfl rfl (by kernel_rfl) (by kernel_rfl) (by kernel_rfl) hS (y_mul (by rfl) rfl rfl rfl HW5.out) ?_
            simp only [Act.put, List.setIfInBounds_toArray, List.set_cons_zero, List.set_cons_succ]
            refine mv_yield (i := 65) (d := 128) (.int .i64 ((2 * ux + 1))) rfl rfl (by kernel_rfl) (by kernel_rfl) (by kernel_rfl) hS (y_add (by rfl) rfl rfl rfl HW6.out) ?_
            simp only [Act.put, List.setIfInBounds_toArray, List.set_cons_zero, List.set_cons_succ]
            refine mv_yield (i := 66) (d := 129) (.bool false) rfl rfl (by kernel_rfl) (by kernel_rfl) (by kernel_rfl) hS (y_gtr (by rfl) rfl rfl rfl d2) ?_
            simp only [Act.put, List.setIfInBounds_toArray, List.set_cons_zero, List.set_cons_succ]
            refine mv_yield (i := 67) (d := 130) (.bool false) rfl rfl (by kernel_rfl) (by kernel_rfl) (by kernel_rfl) hS (y_run (by rfl) fun _ => by rfl) ?_
            simp only [Act.put, List.setIfInBounds_toArray, List.set_cons_zero, List.set_cons_succ]
            refine mv_yield (i := 68) (d := 131) (.bool false) rfl rfl (by kernel_rfl) (by kernel_rfl) (by kernel_rfl) hS (y_run (by rfl) fun _ => by rfl) ?_
            simp only [Act.put, List.setIfInBounds_toArray, List.set_cons_zero, List.set_cons_succ]
            refine mv_yield (i := 69) (d := 132) (.bool false) rfl rfl (by kernel_rfl) (by kernel_rfl) (by kernel_rfl) hS (y_run (by rfl) fun _ => by rfl) ?_
            simp only [Act.put, List.setIfInBounds_toArray, List.set_cons_zero, List.set_cons_succ]
            refine mv_done (by kernel_rfl) ?_
            clear d0 d1 d2 eM
            go_wp2
            go_roundw
            case rel => exact ⟨j + 1, by omega, by go_num, HB5.out.drew⟩
            case measure => simp [intOf]; omega
        · obtain rfl : j = k := by omega
          go_wp2
          go_ret
          exact ⟨rfl, below_trans HB4.out HB5.out HB4.out.size⟩
end Go.Proofs.YtlnmpgbknalagaaDoor.Lv
