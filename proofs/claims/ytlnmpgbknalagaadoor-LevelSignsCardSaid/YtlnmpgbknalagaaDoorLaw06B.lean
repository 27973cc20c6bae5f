/- The statements' walks of layer 6, second part: LevelFills. -/
import Derived.Test.YtlnmpgbknalagaaDoorLvG
import Derived.Test.YtlnmpgbknalagaaDoorLvMath2
import Derived.Test.YtlnmpgbknalagaaDoorOwn
namespace Go.Proofs.YtlnmpgbknalagaaDoor.Lv
open Go.RowKit Go.Proofs.YtlnmpgbknalagaaDoor.Row

theorem run_max2 (x u : Int) (h : uns x = u) (w : World) :
    Sem.run Tryd.prog (Builtin.max_ #[3, 3] 3 #[.int .i64 x, .int .i64 (-x)]) w = .ok (.int .i64 u) w := by
  have e : (if x < -x then -x else x) = u := by
    rw [← h]; unfold uns; split <;> omega
  rw [← e]
  simp [Builtin.max_, Builtin.max2]

theorem awake_in (w w0 : World) (hTab : Tab w) (hb : Below w0.heap.size w0 w) : Calls Tryd.prog 9 #[] w fun e w' => e = .returned (.bool true) ∧ Below w0.heap.size w0 w' ∧ Tab w' :=
  (awake_yes w hTab).mono fun _ _ ⟨he, h⟩ => ⟨he, below_trans hb h hb.size, hTab.next h⟩

theorem levelFills_long (l : Int) (a : Option Addr) (n c : Nat) (w : World) (hTab : Tab w) (hn : 8 < n) (hm : n ≤ maxLen) :
    Calls Tryd.prog 5 #[.int .u8 l, .slice a n c] w fun e w' => e = .returned (.bool true) ∧ Below w.heap.size w w' := by
  unfold maxLen at hm
  have HT := Lib.hid hTab
  clear hTab
  go_enter Tryd.func5, Tryd.ntmps5
  go_wp2_with fail
  refine (awake_in _ w HT.out (Below.refl _ _)).mono ?_
  rintro e w1 ⟨rfl, hb1, ht1⟩
  have HB1 := Lib.hid hb1
  have HT1 := Lib.hid ht1
  clear hb1 ht1
  go_wp2_with fail
  refine (awake_in _ w HT1.out HB1.out).mono ?_
  rintro e w2 ⟨rfl, hb2, ht2⟩
  have HB2 := Lib.hid hb2
  clear hb2 ht2
  go_wp2
  go_ret
  exact ⟨rfl, HB2.out⟩

theorem u8_bd {l : Int} (h : (Lit.int .u8 l).wf = true) : 0 ≤ l ∧ l ≤ 255 := by
  simpa [Lit.wf, IntKind.min, IntKind.max, IntKind.bits, IntKind.signed] using h
theorem i8_bd {l : Int} (h : (Lit.int .i8 l).wf = true) : -128 ≤ l ∧ l ≤ 127 := by
  simpa [Lit.wf, IntKind.min, IntKind.max, IntKind.bits, IntKind.signed] using h

set_option maxRecDepth 100000 in
set_option maxHeartbeats 1000000 in
theorem levelFills_some (l : Int) (b o n c : Nat) (y : Nat → Int) (w : World) (hTab : Tab w) (hl : 0 ≤ l ∧ l ≤ 255) (h0 : 0 < n) (h8 : n ≤ 8)
    (hc : ∀ i, i < n → w.cell? ⟨b, o + i, none⟩ = some (.int .i8 (y i))) (hy : ∀ i, i < n → -128 ≤ y i ∧ y i ≤ 127) :
    Calls Tryd.prog 5 #[.int .u8 l, .slice (some ⟨b, o, none⟩) n c] w fun e w' => e = .returned (.bool true) ∧ Below w.heap.size w w' := by
  obtain ⟨l0, l1⟩ := hl
  have HT := Lib.hid hTab
  have HC := Lib.hid hc
  have HY := Lib.hid hy
  clear hTab hc hy
  go_enter Tryd.func5, Tryd.ntmps5
  go_wp2_with fail
  refine (awake_in _ w HT.out (Below.refl _ _)).mono ?_
  rintro e w1 ⟨rfl, hb1, ht1⟩
  have HB1 := Lib.hid hb1
  clear hb1 ht1
  go_wp2
  obtain ⟨r, hr⟩ : ∃ r, l % 21 = r := ⟨_, rfl⟩
  have r0 : 0 ≤ r := by omega
  have r1 : r ≤ 20 := by omega
  rw [hr]
  clear hr l0 l1
  go_loopw [6, 7, 8] (fun p s i w' => ∃ (k : Nat) (a' : Option Addr) (c' : Nat), k ≤ n ∧ i = .int .i64 k ∧ p = .slice a' k c' ∧ s = .int .i64 (sm (fun i => uns (pS y i)) k) ∧ Below w.heap.size w w' ∧ OwnS w' w.heap.size a' k c' (pS y)) (fun _ _ i _ => n - (intOf i).toNat)
  case atStart => exact ⟨0, none, 0, Nat.zero_le _, rfl, rfl, rfl, HB1.out, OwnS.nil _ _ _⟩
  case round =>
    obtain ⟨k, a', c', hk, rfl, rfl, rfl, hb, ho⟩ := hrel
    have HB := Lib.hid hb
    have HO := Lib.hid ho
    clear hb ho
    obtain ⟨s1, s2⟩ := smu_bd (pS y) k (ok_pS y k)
    by_cases hlt : k < n
    · have c0 := (Below.cell HB.out (block_lt_of_cell (HC.out k hlt))).trans (HC.out k hlt)
      obtain ⟨y1, y2⟩ := HY.out k hlt
      obtain ⟨q1, q2⟩ := pS_bd y k
      have HS := Lib.hid (show sm (fun i => uns (pS y i)) (k + 1) = sm (fun i => uns (pS y i)) k + uns (pS y k) from rfl)
      have HP := Lib.hid (show pS y k = (y k).tmod 9 from rfl)
      obtain ⟨x, hx⟩ : ∃ x, y k = x := ⟨_, rfl⟩
      rw [hx] at c0 y1 y2 HP
      obtain ⟨q, hq⟩ : ∃ q, pS y k = q := ⟨_, rfl⟩
      have HQ := Lib.hid hq
      rw [hq] at q1 q2 HS HP
      have hxq : x.tmod 9 = q := HP.out.symm
      obtain ⟨u, hu⟩ : ∃ u, uns q = u := ⟨_, rfl⟩
      have hmx := run_max2 q u hu
      have hub := uns_bd q1 q2
      rw [hu] at HS hub
      obtain ⟨u1, u2⟩ := hub
      clear hx hq hu
      generalize sm (fun i => uns (pS y i)) k = s at *
      have HO1 := Lib.hid (OwnS.below HO.out ((Below.refl _ _).alloc (Nat.le_refl _) (.cells #[.int .i64 q] 3)))
      have HN1 := Lib.hid (show (wr.alloc (.cells #[.int .i64 q] 3)).cell? ⟨wr.heap.size, 0, none⟩ = some (.int .i64 (pS y k)) by rw [HQ.out]; exact cell_of_row _ _ 0 _ _ _ (At.new wr #[.int .i64 q] 3))
      have HB2 := Lib.hid (HB.out.alloc HB.out.size (.cells #[.int .i64 q] 3))
      have HZ1 := Lib.hid HB2.out.size
      have HK1 := Lib.hid (show k + 1 ≤ 1000000000 by omega)
      go_wp2_with (at_builtin; refine wpList_append_one rfl (.tmp 29) (.tmp 36) rfl w.heap.size (pS y) a' k c' rfl HO1.out wr.heap.size rfl HN1.out HK1.out HZ1.out ?_; intro g c2 w2 hg hb2 hgr hat)
      have HB3 := Lib.hid (HB2.out.trans hb2)
      have HG := Lib.hid hg
      have cg : w2.cell? ⟨g, k, none⟩ = some (.int .i64 q) := by rw [← HQ.out]; exact hg.cell k (by omega)
      have k0 : (0 : Int) ≤ (k : Int) := by omega
      have k1 : (k : Int) < (k : Int) + 1 := by omega
      have hw1 : IntKind.i64.wrap (-q) = -q := IntWalk.i64_in _ (by omega)
      have hw2 : IntKind.i64.wrap (s + u) = s + u := IntWalk.i64_in _ (by omega)
      clear hg hb2 hgr hat HO HO1 HN1 HB2 HZ1 hxq
      go_quiet (fail)
      clear hw1 hw2
      go_wp2
      go_roundw
      case rel => exact ⟨k + 1, some ⟨g, 0, none⟩, c2, by omega, by go_num, rfl, by rw [HS.out], below_drewN HB3.out _, .inr ⟨g, rfl, HG.out.drewN _⟩⟩
      case measure => simp [intOf]; omega
    · obtain rfl : k = n := by omega
      obtain ⟨g, rfl, hG⟩ := HO.out.pos h0
      have HG := Lib.hid hG
      obtain ⟨K, hK⟩ : ∃ K, sm (fun i => uns (pS y i)) k = K := ⟨_, rfl⟩
      have hck : cnt (pS y) k = K := by rw [← hK]; unfold cnt; rw [if_pos ⟨h8, ok_pS y k⟩]
      have HCK := Lib.hid hck
      have CF := Lib.hid (fill_any r (some ⟨g, 0, none⟩) k c' (pS y) wr hG.sl (by omega))
      rw [hK] at s1 s2
      rw [hK]
      clear hG hK hck HO
      go_wp2_with (go_at_call 14; (with_reducible refine CF.out.mono ?_); rintro e w2 ⟨g2, U, rfl, hg2, hU, hA, hw2⟩; have HW2 := Lib.hid hw2; have HA2 := Lib.hid hA; have HU := Lib.hid hU; clear hg2 hU hA hw2)
      have HG2 := Lib.hid (HG.out.below HW2.out)
      have HB2 := Lib.hid (below_trans HB.out HW2.out HB.out.size)
      clear HG HB CF HW2
      go_loopw [10, 11] (fun s i w' => ∃ j : Nat, j ≤ k ∧ i = .int .i64 j ∧ s = .int .i64 (sm (fun i => uns (fl r (pS y) k i)) j) ∧ Below w2.heap.size w2 w') (fun _ i _ => k - (intOf i).toNat)
      case atStart => exact ⟨0, Nat.zero_le _, rfl, rfl, Below.refl _ _⟩
      case round =>
        obtain ⟨j, hj, rfl, rfl, hb⟩ := hrel
        have HB3 := Lib.hid hb
        clear hb
        have t0 : 0 ≤ sm (fun i => uns (fl r (pS y) k i)) j := smu_nonneg _ (fun i => uns_nonneg _) j
        by_cases hjk : j < k
        · have cg := (HG2.out.below HB3.out).cell j hjk
          have cu := HU.out.cell (HA2.out.below HB3.out HA2.out.lt) j hjk
          obtain ⟨x1, x2⟩ := fl_bd r (pS y) k j hjk
          obtain ⟨z1, z2⟩ := pS_bd y j
          obtain ⟨g1, g2⟩ := fl_sign r (pS y) k j
          have HS := Lib.hid (show sm (fun i => uns (fl r (pS y) k i)) (j + 1) = sm (fun i => uns (fl r (pS y) k i)) j + uns (fl r (pS y) k j) from rfl)
          have t1 := smf_bd r (pS y) k j (by omega)
          obtain ⟨x, hx⟩ : ∃ x, fl r (pS y) k j = x := ⟨_, rfl⟩
          obtain ⟨z, hz⟩ : ∃ z, pS y j = z := ⟨_, rfl⟩
          rw [hx] at cu x1 x2 g1 g2 HS
          rw [hz] at cg z1 z2 g1 g2
          obtain ⟨u, hu⟩ : ∃ u, uns x = u := ⟨_, rfl⟩
          have hmx := run_max2 x u hu
          have u0 : 0 ≤ u := by rw [← hu]; exact uns_nonneg x
          have u1 : u ≤ 25165824 := by rw [← hu]; unfold uns; omega
          rw [hu] at HS
          clear hx hz hu
          generalize sm (fun i => uns (fl r (pS y) k i)) j = S at *
          have j0 : (0 : Int) ≤ (j : Int) := by omega
          have j1 : (j : Int) < (k : Int) := by omega
          have t2 : S ≤ 201326592 := by omega
          have hcase : (x < 0 ∧ z < 0) ∨ (0 < x ∧ 0 < z) ∨ (x ≤ 0 ∧ 0 ≤ x) := by omega
          clear g1 g2 t1
          rcases hcase with ⟨q1, q2⟩ | ⟨q1, q2⟩ | ⟨q1, q2⟩
          all_goals
            go_wp2
            have hw1 : IntKind.i64.wrap (-x) = -x := IntWalk.i64_in _ (by omega)
            have hw2 : IntKind.i64.wrap (S + u) = S + u := IntWalk.i64_in _ (by omega)
            go_quiet (fail)
            clear hw1 hw2
            go_wp2
            go_roundw
            case rel => exact ⟨j + 1, by omega, by go_num, by rw [HS.out], below_drewN HB3.out _⟩
            case measure => simp [intOf]; omega
        · obtain rfl : j = k := by omega
          have HBF := Lib.hid (below_trans HB2.out HB3.out HB2.out.size)
          by_cases hoff : r < 1 ∨ 20 < r ∨ K = 0
          · have hs0 := sum_none r (pS y) j (by rw [HCK.out]; exact hoff) j
            rw [hs0]
            clear hs0 t0
            by_cases hr0 : r = 0
            · subst hr0
              clear hoff r0 r1
              go_wp2
              go_ret
              exact ⟨rfl, HBF.out⟩
            · obtain rfl : K = 0 := by omega
              have hr1 : 0 < r := by omega
              have hr2 : (r == 0) = false := by rw [beq_eq_false_iff_ne]; exact hr0
              clear hoff s1 s2
              go_wp2
              go_ret
              exact ⟨rfl, HBF.out⟩
          · obtain ⟨f0, f1, f2⟩ := sum_fill r (pS y) j h8 (ok_pS y j) (by rw [HCK.out]; exact hoff)
            have hr0 : 0 < r := by omega
            have hK0 : 0 < K := by omega
            obtain ⟨p1, p2⟩ := pow_bd (show r.toNat ≤ 20 by omega)
            have p3 : 6 ≤ r → (64 : Int) ≤ 2 ^ r.toNat := fun h => by have := (pow_bd (show 6 ≤ r.toNat by omega)).2; simpa using this
            simp only [Int.reducePow] at p2
            obtain ⟨p, hp⟩ : ∃ p : Int, 2 ^ r.toNat = p := ⟨_, rfl⟩
            rw [hp] at p1 p2 p3 f1 f2
            generalize sm (fun i => uns (fl r (pS y) j i)) j = S at *
            clear hoff t0
            have e1 : (r == 0) = false := by rw [beq_eq_false_iff_ne]; omega
            have e2 : (K == 0) = false := by rw [beq_eq_false_iff_ne]; omega
            have q1 : 4 * S ≤ 3 * p := f1
            by_cases hr6 : r < 6
            · clear p3 f2
              go_wp2
              go_ret
              exact ⟨rfl, HBF.out⟩
            · have p4 := p3 (by omega)
              have q2 : p ≤ 2 * S := by omega
              have q3 : S < p := by omega
              clear p3 f2
              go_wp2
              go_ret
              exact ⟨rfl, HBF.out⟩

set_option maxRecDepth 100000 in
set_option maxHeartbeats 400000 in
theorem levelFills_none (l : Int) (a : Option Addr) (c : Nat) (w : World) (hTab : Tab w) (hl : 0 ≤ l ∧ l ≤ 255) :
    Calls Tryd.prog 5 #[.int .u8 l, .slice a 0 c] w fun e w' => e = .returned (.bool true) ∧ Below w.heap.size w w' := by
  obtain ⟨l0, l1⟩ := hl
  have HT := Lib.hid hTab
  clear hTab
  go_enter Tryd.func5, Tryd.ntmps5
  go_wp2_with fail
  refine (awake_in _ w HT.out (Below.refl _ _)).mono ?_
  rintro e w1 ⟨rfl, hb1, ht1⟩
  have HB1 := Lib.hid hb1
  clear hb1 ht1
  go_wp2
  obtain ⟨r, hr⟩ : ∃ r, l % 21 = r := ⟨_, rfl⟩
  have r0 : 0 ≤ r := by omega
  have r1 : r ≤ 20 := by omega
  rw [hr]
  clear hr l0 l1
  have CF := Lib.hid (fill_any r none 0 0 (fun _ => 0) w1 (OwnS.nil w1 0 _).sl (by omega))
  refine wp_loop_rounds 1 ?_
  rw [rounds_succ]
  go_wp2_with (go_at_call 14; (with_reducible refine CF.out.mono ?_); rintro e w2 ⟨g2, U, rfl, hg2, hU, hA, hw2⟩; have HW2 := Lib.hid hw2; clear hg2 hU hA hw2)
  have HBF := Lib.hid (below_trans HB1.out HW2.out HB1.out.size)
  refine wp_loop_rounds 1 ?_
  rw [rounds_succ]
  by_cases hr0 : r = 0
  · subst hr0
    go_wp2
    go_ret
    exact ⟨rfl, HBF.out⟩
  · have hr2 : (r == 0) = false := by rw [beq_eq_false_iff_ne]; exact hr0
    clear hr0
    go_wp2
    go_ret
    exact ⟨rfl, HBF.out⟩

theorem levelFills_walk (l : Int) (a : Option Addr) (n c : Nat) (y : Nat → Int) (w : World) (w0 : (Lit.int .u8 l).wf = true) (hS : Sl .i8 w a n c y) (hy : ∀ i, i < n → (Lit.int .i8 (y i)).wf = true) (hTab : Tab w) :
    Calls Tryd.prog 5 #[.int .u8 l, .slice a n c] w fun e w' => e = .returned (.bool true) ∧ Below w.heap.size w w' := by
  by_cases h8 : 8 < n
  · exact levelFills_long l a n c w hTab h8 (Nat.le_trans hS.1 hS.2.1)
  · by_cases h0 : n = 0
    · subst h0; exact levelFills_none l a c w hTab (u8_bd w0)
    · obtain ⟨b, o, rfl, hc⟩ := hS.2.2 (by omega)
      exact levelFills_some l b o n c y w hTab (u8_bd w0) (by omega) (by omega) hc fun i hi => i8_bd (hy i hi)
end Go.Proofs.YtlnmpgbknalagaaDoor.Lv
