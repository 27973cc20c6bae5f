/- The statements' walks of layer 6, fifth part: LevelPlays. -/
import Derived.Test.YtlnmpgbknalagaaDoorLaw06D
import Derived.Deep.DeepCutAuto
namespace Go.Proofs.YtlnmpgbknalagaaDoor.Lv
open Go.RowKit Go.Proofs.YtlnmpgbknalagaaDoor.Row

/-- 'w[l:h]' of a frame that is a variable. -/
theorem run_cut2 (g l h n : Nat) (hn : h = l + n) (h0 : 0 < n) (h16 : h ≤ 16) (w : World) :
    (Instr.sliceAt 22 (.pointer (some ⟨g, 0, none⟩)) (some (.int .i64 l)) (some (.int .i64 h)) none).run Tryd.prog w = .ok (.slice (some ⟨g, l, none⟩) n (16 - l)) w := by
  have hu : Tryd.prog.underlying 22 = some (.array (Tryd.prog.arrayLen 22) (Tryd.prog.elem 22)) := by kernel_rfl
  have hl : Tryd.prog.arrayLen 22 = 16 := by kernel_rfl
  have he : Tryd.prog.elem 22 = 3 := by kernel_rfl
  rw [run_sliceAt_array_lh w 22 ⟨g, 0, none⟩ hu .i64 .i64 l h (by omega) (by omega) (by rw [hl]; omega), he, sizeOf_int]
  simp only [Result.andThen_ok, slicedAt, Int.toNat_natCast, Nat.mul_one, hl]
  rw [if_neg (by omega), show h - l = n by omega]
  congr 3
  unfold Addr.add
  by_cases e : l = 0
  · subst e; simp
  · simp [e]

theorem quiet_calls {f : FuncId} {xs : Array Value} {w0 : World} {n : Nat} {v : Value}
    (h : Calls Tryd.prog f xs (w0.drewN n) fun e w' => e = .returned v ∧ w0.drewN n = w') :
    Calls Tryd.prog f xs (w0.drewN n) fun e w' => e = .returned v ∧ ∃ m, w' = w0.drewN m :=
  h.mono fun _ _ ⟨he, hw⟩ => ⟨he, n, hw.symm⟩

/-- What stands while the levels are compared. -/
def PlS (w : World) (T U : Array Value) (bL : Nat) (w' : World) : Prop := Below w.heap.size w w' ∧ At w' w.heap.size T 22 ∧ At w' bL U 30
theorem PlS.below {w w1 w2 : World} {T U : Array Value} {bL : Nat} (h : PlS w T U bL w1) (hb : Below w1.heap.size w1 w2) : PlS w T U bL w2 :=
  ⟨below_trans h.1 hb h.1.size, h.2.1.below hb h.2.1.lt, h.2.2.below hb h.2.2.lt⟩
theorem PlS.drewN {w w1 : World} {T U : Array Value} {bL : Nat} (h : PlS w T U bL w1) (k : Nat) : PlS w T U bL (w1.drewN k) := ⟨below_drewN h.1 k, h.2.1, h.2.2⟩

/-- Is it a level, and are the pulses such as may be? -/
def rightB (l : Int) (n : Nat) : Bool := decide (0 ≤ l) && decide (l ≤ 20) && decide (n ≤ 8)
def rtB (R : Bool) (y : Nat → Int) (j : Nat) : Bool := R && okY y j
theorem rt_end {x : Int} {r s : Bool} (h : r = (true && decide (-8 ≤ x ∧ x ≤ 8))) (hs : s = decide (-8 ≤ x ∧ x ≤ 8)) : Value.bool s = Value.bool r := by rw [h, hs, Bool.true_and]
theorem fl_wrong {l : Int} {y : Nat → Int} {n : Nat} (h : (rightB l n && okY y n) = false) (i : Nat) : fl l y n i = 0 := by
  apply fl_off
  by_cases h1 : l < 1
  · exact .inl h1
  · by_cases h2 : 20 < l
    · exact .inr (.inl h2)
    · refine .inr (.inr ?_)
      unfold cnt
      rw [if_neg]
      rintro ⟨h3, h4⟩
      rw [h4, Bool.and_true] at h
      unfold rightB at h
      simp at h
      omega

theorem levelPlays_long (T : Array Value) (l : Int) (a : Option Addr) (n c : Nat) (w : World) (hTab : Tab w) (hn : 60 < n) (hm : n ≤ maxLen) :
    Calls Tryd.prog 6 #[.agg T, .int .i64 l, .slice a n c] w fun e w' => e = .returned (.bool true) ∧ Below w.heap.size w w' := by
  unfold maxLen at hm
  have B0 := (Below.refl w.heap.size w).alloc (Nat.le_refl _) (.cells T 22)
  have HT := Lib.hid (hTab.below B0 hTab.lt)
  have HB := Lib.hid B0
  clear hTab B0
  go_enter Tryd.func6, Tryd.ntmps6
  go_wp2_with fail
  refine (awake_yes _ HT.out).mono ?_
  rintro e w1 ⟨rfl, hb1⟩
  have HB1 := Lib.hid (below_trans HB.out hb1 HB.out.size)
  have HT1 := Lib.hid (HT.out.next hb1)
  clear hb1
  go_wp2_with fail
  refine (awake_yes _ HT1.out).mono ?_
  rintro e w2 ⟨rfl, hb2⟩
  have HB2 := Lib.hid (below_trans HB1.out hb2 HB1.out.size)
  clear hb2
  go_wp2
  go_ret
  exact ⟨rfl, HB2.out⟩

set_option maxRecDepth 100000 in
set_option maxHeartbeats 2000000 in
theorem levelPlays_some (T : Array Value) (f : Nat → Int) (hT : IsRow 16 f T) (l : Int) (b o n c : Nat) (y : Nat → Int) (w : World) (hTab : Tab w) (hl0 : -9223372036854775808 ≤ l) (hl1 : l ≤ 9223372036854775807) (h0 : 0 < n) (h60 : n ≤ 60) (hS : Sl .i64 w (some ⟨b, o, none⟩) n c y) :
    Calls Tryd.prog 6 #[.agg T, .int .i64 l, .slice (some ⟨b, o, none⟩) n c] w fun e w' => e = .returned (.bool true) ∧ Below w.heap.size w w' := by
  obtain ⟨Z, hZ, _, hz, hi⟩ := zero_4
  have hI16 : (Tryd.prog.info? 22).map (·.size) = some T.size := by obtain ⟨_, _, _, _, h⟩ := zero_row (t := 22) (m := 16) (by kernel_rfl); exact h T hT.1
  have HT := Lib.hid hT
  have HZ := Lib.hid hZ
  have HI := Lib.hid hi
  have HI16 := Lib.hid hI16
  have A0 := Lib.hid (At.new w T 22)
  have B0 := Lib.hid ((Below.refl w.heap.size w).alloc (Nat.le_refl _) (.cells T 22))
  have HTab0 := Lib.hid (hTab.below B0.out hTab.lt)
  have hc : ∀ i, i < n → w.cell? ⟨b, o + i, none⟩ = some (.int .i64 (y i)) := fun i hi => by
    obtain ⟨b', o', e, hc⟩ := hS.2.2 h0
    injection e with e
    injection e with e1 e2
    subst e1 e2
    exact hc i hi
  have HC := Lib.hid hc
  have HSl := Lib.hid hS
  clear hc hS
  clear hT hZ hi hI16 hTab
  go_enter Tryd.func6, Tryd.ntmps6
  go_wp2_with fail
  refine (awake_yes _ HTab0.out).mono ?_
  rintro e w1 ⟨rfl, hw1⟩
  have A1 := Lib.hid (A0.out.below hw1 A0.out.lt)
  have B1 := Lib.hid (below_trans B0.out hw1 B0.out.size)
  have HTab1 := Lib.hid (HTab0.out.next hw1)
  clear A0 B0 hw1 HTab0
  go_wp2_with (refine wpList_load_wanted (by rfl) 22 _ rfl w.heap.size rfl _ _ _ _ A1.out Tryd.underlying22 HI16.out ?_)
  refine (levels_any T f w1 HT.out HTab1.out).mono ?_
  rintro e w2 ⟨U, rfl, hU, hw2⟩
  have HU := Lib.hid hU
  have HS0 := Lib.hid (show PlS w T U w2.heap.size (w2.alloc (.cells U 30)) from ⟨(below_trans B1.out hw2 B1.out.size).alloc (Nat.le_trans B1.out.size hw2.size) _, (A1.out.below hw2 A1.out.lt).alloc _, At.new _ _ _⟩)
  clear hU hw2 A1 B1 HTab1
  go_wp2_with (refine wpList_store_row rfl 30 _ _ rfl w2.heap.size U rfl rfl _ _ (heap_alloc_new _ _) (HI.out _ HU.out.1) (by rw [HU.out.1, HZ.out.1]) HU.out.2.1 ?_; rw [World.setRow_alloc_new])
  revert HS0
  generalize w2.alloc (.cells U 30) = W0
  generalize w2.heap.size = bL
  intro HS0
  go_loopw [8] (fun i w' => ∃ k : Nat, k ≤ 4 ∧ i = .int .i64 k ∧ PlS w T U bL w') (fun i _ => 4 - (intOf i).toNat)
  case atStart => exact ⟨0, Nat.zero_le _, rfl, HS0.out⟩
  case round =>
    obtain ⟨k, hk, rfl, hs⟩ := hrel
    have HS := Lib.hid hs
    clear hs HS0
    by_cases hlt : k < 4
    · have hb := fs_bd k hlt
      have CB := Lib.hid (fun w => bounds_any k w hlt)
      have HLV := Lib.hid (show lvB f k = lv (fun i => f (fs k + i)) (fs (k + 1) - fs k) from rfl)
      obtain ⟨p, hp⟩ : ∃ p, fs k = p := ⟨_, rfl⟩
      obtain ⟨q, hq⟩ : ∃ q, fs (k + 1) = q := ⟨_, rfl⟩
      obtain ⟨m, hm⟩ : ∃ m, q - p = m := ⟨_, rfl⟩
      rw [hp, hq] at CB HLV hb
      rw [hm] at HLV
      have hcut := run_cut2 w.heap.size p q m (by omega) (by omega) (by omega)
      have hm16 : m ≤ 1000 := by omega
      have HM := Lib.hid (show p + m ≤ 16 by omega)
      obtain ⟨r, hr⟩ : ∃ r, lvB f k = r := ⟨_, rfl⟩
      have HR := Lib.hid hr
      have HR2 := Lib.hid (HLV.out.symm.trans hr)
      clear hp hq hm hb hr HLV
      go_wp2_with fail
      refine (CB.out _).mono ?_
      rintro e w5 ⟨rfl, hw5⟩
      have HS5 := Lib.hid (HS.out.below hw5)
      have cL : w5.cell? ⟨bL, k, none⟩ = some (.int .i64 r) := by rw [← HR.out]; exact HU.out.cell HS5.out.2.2 k hlt
      have CR := Lib.hid (fun (z : Nat) => HR2.out ▸ refLevel_any (some ⟨w.heap.size, p, none⟩) m (16 - p) (fun i => f (p + i)) (w5.drewN z) (by have h := HM.out; exact ⟨by omega, by unfold maxLen; omega, fun _ => ⟨w.heap.size, p, rfl, fun i hi => HT.out.cell HS5.out.2.1 (p + i) (by omega)⟩⟩) hm16)
      have k0 : (0 : Int) ≤ (k : Int) := by omega
      have k1 : (k : Int) < 4 := by omega
      clear hw5 HS CB
      go_wp2
      go_quiet ((go_at_call 16; with_reducible exact quiet_calls (CR.out _)))
      clear cL CR
      go_wp2
      go_roundw
      case rel => exact ⟨k + 1, by omega, by go_num, HS5.out.drewN _⟩
      case measure => simp [intOf]; omega
    · obtain rfl : k = 4 := by omega
      have HB := Lib.hid HS.out.1
      clear HS HU HT HI HI16 HZ
      obtain ⟨R, hR⟩ : ∃ R, rightB l n = R := ⟨_, rfl⟩
      have HR := Lib.hid hR
      clear hlt hk hR
      have hcase : (l < 0 ∧ R = false) ∨ (0 ≤ l ∧ 20 < l ∧ R = false) ∨ (0 ≤ l ∧ l ≤ 20 ∧ 8 < n ∧ R = false) ∨ (0 ≤ l ∧ l ≤ 20 ∧ n ≤ 8 ∧ R = true) := by
        have h := HR.out
        unfold rightB at h
        by_cases h1 : 0 ≤ l
        · by_cases h2 : l ≤ 20
          · by_cases h3 : n ≤ 8
            · exact .inr (.inr (.inr ⟨h1, h2, h3, by rw [← h]; simp [h1, h2, h3]⟩))
            · exact .inr (.inr (.inl ⟨h1, h2, by omega, by rw [← h]; simp [h3]⟩))
          · exact .inr (.inl ⟨h1, by omega, by rw [← h]; simp [h2]⟩)
        · exact .inl ⟨by omega, by rw [← h]; simp [h1]⟩
      go_upto_region 10 with fail
      go_cut [11] (fun s wx => s = .bool R ∧ wr = wx)
      case first =>
        rcases hcase with ⟨h1, rfl⟩ | ⟨h1, h2, rfl⟩ | ⟨h1, h2, h3, rfl⟩ | ⟨h1, h2, h3, rfl⟩
        · go_wp2
          go_meet
          exact ⟨rfl, rfl⟩
        · go_wp2
          go_meet
          exact ⟨rfl, rfl⟩
        · go_wp2
          go_meet
          exact ⟨congrArg Value.bool (by simp; omega), rfl⟩
        · go_wp2
          go_meet
          exact ⟨congrArg Value.bool (by simp; omega), rfl⟩
      case rest =>
        obtain ⟨rfl, rfl⟩ := hcut
        clear hcase
        go_wp2
        go_loop [11, 12] (fun s i => ∃ j : Nat, j ≤ n ∧ i = .int .i64 j ∧ s = .bool (rtB R y j)) (fun _ i => n - (intOf i).toNat)
        case atStart => exact ⟨0, Nat.zero_le _, rfl, congrArg Value.bool (show R = rtB R y 0 by unfold rtB; simp [okY])⟩
        case round =>
          obtain ⟨j, hj, rfl, rfl⟩ := hrel
          obtain ⟨B, hB⟩ : ∃ B, rtB R y j = B := ⟨_, rfl⟩
          have HBB := Lib.hid hB
          rw [hB]
          clear hB
          by_cases hjn : j < n
          · have c0 := (Below.cell HB.out (block_lt_of_cell (HC.out j hjn))).trans (HC.out j hjn)
            obtain ⟨x, hx⟩ : ∃ x, y j = x := ⟨_, rfl⟩
            have HN := Lib.hid (show rtB R y (j + 1) = (B && decide (-8 ≤ x ∧ x ≤ 8)) by rw [← HBB.out, ← hx]; unfold rtB; simp only [okY, Bool.and_assoc])
            rw [hx] at c0
            clear hx
            cases B with
            | false =>
              go_wp2
              go_round
              case rel => exact ⟨j + 1, by omega, by go_num, by rw [HN.out]; rfl⟩
              case measure => simp [intOf]; omega
            | true =>
              have hc3 : x < -8 ∨ (-8 ≤ x ∧ 8 < x) ∨ (-8 ≤ x ∧ x ≤ 8) := by omega
              rcases hc3 with h1 | ⟨h1, h2⟩ | ⟨h1, h2⟩
              · go_wp2
                go_round
                case rel => exact ⟨j + 1, by omega, by go_num, by first | (rw [HN.out]; simp; omega) | exact rt_end HN.out (by simp; omega)⟩
                case measure => simp [intOf]; omega
              · go_wp2
                go_round
                case rel => exact ⟨j + 1, by omega, by go_num, by first | (rw [HN.out]; simp; omega) | exact rt_end HN.out (by simp; omega)⟩
                case measure => simp [intOf]; omega
              · go_wp2
                go_round
                case rel => exact ⟨j + 1, by omega, by go_num, by first | (rw [HN.out]; simp; omega) | exact rt_end HN.out (by simp; omega)⟩
                case measure => simp [intOf]; omega
          · obtain rfl : j = n := by omega
            clear hjn hj
            have A6 := Lib.hid (At.new wr (rowL j (fl l y j) 0) 3)
            have B6 := Lib.hid (HB.out.alloc HB.out.size (.cells (rowL j (fl l y j) 0) 3))
            cases B with
            | false =>
              have RW := Lib.hid ((rowL_is j (fl l y j)).ext fun i _ => (fl_wrong (l := l) (by rw [HR.out]; exact HBB.out) i).symm)
              go_wp2_with (at_make; refine wpList_make_rowL (fl l y j) rfl _ _ rfl j _ _ rfl rfl (by omega) ?_)
              revert A6 B6
              generalize wr.alloc (.cells (rowL j (fl l y j) 0) 3) = w6
              generalize rowL j (fl l y j) 0 = UW at *
              generalize wr.heap.size = gW
              intro A6 B6
              have CC := Lib.hid (fill_any l (some ⟨b, o, none⟩) j c y w6 (HSl.out.below B6.out) (by omega))
              go_wp2_with (go_at_call 14; (with_reducible refine CC.out.mono ?_); rintro e w7 ⟨gC, UC, rfl, hgC, hRC, hAC, hw7⟩; have RC := Lib.hid hRC; have AC := Lib.hid hAC; have AW := Lib.hid (A6.out.below hw7 A6.out.lt); have B7 := Lib.hid (below_trans B6.out hw7 B6.out.size); clear hgC hRC hAC hw7)
              clear A6 B6 CC
              go_loopw [15] (fun i w' => ∃ k : Nat, k ≤ j ∧ i = .int .i64 k ∧ Below w7.heap.size w7 w') (fun i _ => j - (intOf i).toNat)
              case atStart => exact ⟨0, Nat.zero_le _, rfl, Below.refl _ _⟩
              case round =>
                obtain ⟨k, hk, rfl, hb⟩ := hrel
                have HB8 := Lib.hid hb
                clear hb
                by_cases hkj : k < j
                · have cW := RW.out.cell (AW.out.below HB8.out AW.out.lt) k hkj
                  have cC := RC.out.cell (AC.out.below HB8.out AC.out.lt) k hkj
                  obtain ⟨x, hx⟩ : ∃ x, fl l y j k = x := ⟨_, rfl⟩
                  rw [hx] at cW cC
                  clear hx
                  go_wp2_with fail
                  refine mv_start fun hS => ?_
                  refine mv_yield (i := 0) (d := 91) (.slice (some ⟨gC, 0, none⟩) j j) rfl rfl (by kernel_rfl) (by kernel_rfl) (by kernel_rfl) hS (y_run (by rfl) fun _ => by rfl) ?_
                  simp only [Act.put, List.setIfInBounds_toArray, List.set_cons_zero, List.set_cons_succ]
                  refine mv_yield (i := 1) (d := 92) (.int .i64 ((j : Int))) rfl rfl (by kernel_rfl) (by kernel_rfl) (by kernel_rfl) hS (y_len (by rfl) rfl Tryd.underlying23 rfl) ?_
                  simp only [Act.put, List.setIfInBounds_toArray, List.set_cons_zero, List.set_cons_succ]
                  refine mv_yield (i := 2) (d := 93) (.slice (some ⟨gW, 0, none⟩) j j) rfl rfl (by kernel_rfl) (by kernel_rfl) (by kernel_rfl) hS (y_run (by rfl) fun _ => by rfl) ?_
                  simp only [Act.put, List.setIfInBounds_toArray, List.set_cons_zero, List.set_cons_succ]
                  refine mv_yield (i := 3) (d := 94) (.int .i64 ((j : Int))) rfl rfl (by kernel_rfl) (by kernel_rfl) (by kernel_rfl) hS (y_len (by rfl) rfl Tryd.underlying23 rfl) ?_
                  simp only [Act.put, List.setIfInBounds_toArray, List.set_cons_zero, List.set_cons_succ]
                  refine mv_yield (i := 4) (d := 95) (.bool false) rfl rfl (by kernel_rfl) (by kernel_rfl) (by kernel_rfl) hS (y_nei (by rfl) rfl rfl rfl (by simp)) ?_
                  simp only [Act.put, List.setIfInBounds_toArray, List.set_cons_zero, List.set_cons_succ]
                  refine mv_yield (i := 5) (d := 96) (.bool false) rfl rfl (by kernel_rfl) (by kernel_rfl) (by kernel_rfl) hS (y_run (by rfl) fun _ => by rfl) ?_
                  simp only [Act.put, List.setIfInBounds_toArray, List.set_cons_zero, List.set_cons_succ]
                  refine mv_yield (i := 6) (d := 97) (.slice (some ⟨gC, 0, none⟩) j j) rfl rfl (by kernel_rfl) (by kernel_rfl) (by kernel_rfl) hS (y_run (by rfl) fun _ => by rfl) ?_
                  simp only [Act.put, List.setIfInBounds_toArray, List.set_cons_zero, List.set_cons_succ]
                  refine mv_yield (i := 7) (d := 98) (.int .i64 ((k : Int))) rfl rfl (by kernel_rfl) (by kernel_rfl) (by kernel_rfl) hS (y_run (by rfl) fun _ => by rfl) ?_
                  simp only [Act.put, List.setIfInBounds_toArray, List.set_cons_zero, List.set_cons_succ]
                  refine mv_yield (i := 8) (d := 99) (.pointer (some ⟨gC, k, none⟩)) rfl rfl (by kernel_rfl) (by kernel_rfl) (by kernel_rfl) hS (y_ix (k := k) (by rfl) rfl rfl rfl rfl (Nat.zero_add k) hkj) ?_
                  simp only [Act.put, List.setIfInBounds_toArray, List.set_cons_zero, List.set_cons_succ]
                  refine mv_yield (i := 9) (d := 100) (.int .i64 x) rfl rfl (by kernel_rfl) (by kernel_rfl) (by kernel_rfl) hS (y_cell (by rfl) rfl rfl cC) ?_
                  simp only [Act.put, List.setIfInBounds_toArray, List.set_cons_zero, List.set_cons_succ]
                  refine mv_yield (i := 10) (d := 101) (.slice (some ⟨gW, 0, none⟩) j j) rfl rfl (by kernel_rfl) (by kernel_rfl) (by kernel_rfl) hS (y_run (by rfl) fun _ => by rfl) ?_
                  simp only [Act.put, List.setIfInBounds_toArray, List.set_cons_zero, List.set_cons_succ]
                  refine mv_yield (i := 11) (d := 102) (.int .i64 ((k : Int))) rfl rfl (by kernel_rfl) (by kernel_rfl) (by kernel_rfl) hS (y_run (by rfl) fun _ => by rfl) ?_
                  simp only [Act.put, List.setIfInBounds_toArray, List.set_cons_zero, List.set_cons_succ]
                  refine mv_yield (i := 12) (d := 103) (.pointer (some ⟨gW, k, none⟩)) rfl rfl (by kernel_rfl) (by kernel_rfl) (by kernel_rfl) hS (y_ix (k := k) (by rfl) rfl rfl rfl rfl (Nat.zero_add k) hkj) ?_
                  simp only [Act.put, List.setIfInBounds_toArray, List.set_cons_zero, List.set_cons_succ]
                  refine mv_yield (i := 13) (d := 104) (.int .i64 x) rfl rfl (by kernel_rfl) (by kernel_rfl) (by kernel_rfl) hS (y_cell (by rfl) rfl rfl cW) ?_
                  simp only [Act.put, List.setIfInBounds_toArray, List.set_cons_zero, List.set_cons_succ]
                  refine mv_yield (i := 14) (d := 105) (.bool false) rfl rfl (by kernel_rfl) (by kernel_rfl) (by kernel_rfl) hS (y_nei (by rfl) rfl rfl rfl (by simp)) ?_
                  simp only [Act.put, List.setIfInBounds_toArray, List.set_cons_zero, List.set_cons_succ]
                  refine mv_yield (i := 15) (d := 106) (.bool false) rfl rfl (by kernel_rfl) (by kernel_rfl) (by kernel_rfl) hS (y_run (by rfl) fun _ => by rfl) ?_
                  simp only [Act.put, List.setIfInBounds_toArray, List.set_cons_zero, List.set_cons_succ]
                  refine mv_done (by kernel_rfl) ?_
                  go_wp2
                  go_roundw
                  case rel => exact ⟨k + 1, by omega, by go_num, HB8.out.drew⟩
                  case measure => simp [intOf]; omega
                · obtain rfl : k = j := by omega
                  go_wp2
                  go_ret
                  exact ⟨rfl, below_trans B7.out HB8.out B7.out.size⟩
            | true =>
              have hR1 : R = true := by have h := HBB.out; unfold rtB at h; rw [Bool.and_eq_true] at h; exact h.1
              have hY1 : okY y j = true := by have h := HBB.out; unfold rtB at h; rw [Bool.and_eq_true] at h; exact h.2
              have hR2 : 0 ≤ l ∧ l ≤ 20 ∧ j ≤ 8 := by
                have h := HR.out.trans hR1
                unfold rightB at h
                simp at h
                exact ⟨h.1.1, h.1.2, h.2⟩
              obtain ⟨q1, q2, q3⟩ := hR2
              have CF := Lib.hid (refFill_any l (some ⟨b, o, none⟩) j c y _ (HSl.out.below B6.out) q3 hY1 q1 q2)
              subst hR1
              clear hY1
              go_wp2_with (first
                | (at_make; refine wpList_make_rowL (fl l y j) rfl _ _ rfl j _ _ rfl rfl (by omega) ?_)
                | (go_at_call 17; (with_reducible refine CF.out.mono ?_); rintro e w6 ⟨gW, UW, rfl, hgW, hRW, hAW, hw6⟩; have RW := Lib.hid hRW; have A6' := Lib.hid hAW; have B6' := Lib.hid (below_trans B6.out hw6 B6.out.size); clear hgW hRW hAW hw6))
              clear A6 B6 CF
              have A6 := A6'
              have B6 := B6'
              clear A6' B6'
              have CC := Lib.hid (fill_any l (some ⟨b, o, none⟩) j c y w6 (HSl.out.below B6.out) (by omega))
              go_wp2_with (go_at_call 14; (with_reducible refine CC.out.mono ?_); rintro e w7 ⟨gC, UC, rfl, hgC, hRC, hAC, hw7⟩; have RC := Lib.hid hRC; have AC := Lib.hid hAC; have AW := Lib.hid (A6.out.below hw7 A6.out.lt); have B7 := Lib.hid (below_trans B6.out hw7 B6.out.size); clear hgC hRC hAC hw7)
              clear A6 B6 CC
              go_loopw [15] (fun i w' => ∃ k : Nat, k ≤ j ∧ i = .int .i64 k ∧ Below w7.heap.size w7 w') (fun i _ => j - (intOf i).toNat)
              case atStart => exact ⟨0, Nat.zero_le _, rfl, Below.refl _ _⟩
              case round =>
                obtain ⟨k, hk, rfl, hb⟩ := hrel
                have HB8 := Lib.hid hb
                clear hb
                by_cases hkj : k < j
                · have cW := RW.out.cell (AW.out.below HB8.out AW.out.lt) k hkj
                  have cC := RC.out.cell (AC.out.below HB8.out AC.out.lt) k hkj
                  obtain ⟨x, hx⟩ : ∃ x, fl l y j k = x := ⟨_, rfl⟩
                  rw [hx] at cW cC
                  clear hx
                  go_wp2_with fail
                  refine mv_start fun hS => ?_
                  refine mv_yield (i := 0) (d := 91) (.slice (some ⟨gC, 0, none⟩) j j) rfl rfl (by kernel_rfl) (by kernel_rfl) (by kernel_rfl) hS (y_run (by rfl) fun _ => by rfl) ?_
                  simp only [Act.put, List.setIfInBounds_toArray, List.set_cons_zero, List.set_cons_succ]
                  refine mv_yield (i := 1) (d := 92) (.int .i64 ((j : Int))) rfl rfl (by kernel_rfl) (by kernel_rfl) (by kernel_rfl) hS (y_len (by rfl) rfl Tryd.underlying23 rfl) ?_
                  simp only [Act.put, List.setIfInBounds_toArray, List.set_cons_zero, List.set_cons_succ]
                  refine mv_yield (i := 2) (d := 93) (.slice (some ⟨gW, 0, none⟩) j j) rfl rfl (by kernel_rfl) (by kernel_rfl) (by kernel_rfl) hS (y_run (by rfl) fun _ => by rfl) ?_
                  simp only [Act.put, List.setIfInBounds_toArray, List.set_cons_zero, List.set_cons_succ]
                  refine mv_yield (i := 3) (d := 94) (.int .i64 ((j : Int))) rfl rfl (by kernel_rfl) (by kernel_rfl) (by kernel_rfl) hS (y_len (by rfl) rfl Tryd.underlying23 rfl) ?_
                  simp only [Act.put, List.setIfInBounds_toArray, List.set_cons_zero, List.set_cons_succ]
                  refine mv_yield (i := 4) (d := 95) (.bool false) rfl rfl (by kernel_rfl) (by kernel_rfl) (by kernel_rfl) hS (y_nei (by rfl) rfl rfl rfl (by simp)) ?_
                  simp only [Act.put, List.setIfInBounds_toArray, List.set_cons_zero, List.set_cons_succ]
                  refine mv_yield (i := 5) (d := 96) (.bool false) rfl rfl (by kernel_rfl) (by kernel_rfl) (by kernel_rfl) hS (y_run (by rfl) fun _ => by rfl) ?_
                  simp only [Act.put, List.setIfInBounds_toArray, List.set_cons_zero, List.set_cons_succ]
                  refine mv_yield (i := 6) (d := 97) (.slice (some ⟨gC, 0, none⟩) j j) rfl rfl (by kernel_rfl) (by kernel_rfl) (by kernel_rfl) hS (y_run (by rfl) fun _ => by rfl) ?_
                  simp only [Act.put, List.setIfInBounds_toArray, List.set_cons_zero, List.set_cons_succ]
                  refine mv_yield (i := 7) (d := 98) (.int .i64 ((k : Int))) rfl rfl (by kernel_rfl) (by kernel_rfl) (by kernel_rfl) hS (y_run (by rfl) fun _ => by rfl) ?_
                  simp only [Act.put, List.setIfInBounds_toArray, List.set_cons_zero, List.set_cons_succ]
                  refine mv_yield (i := 8) (d := 99) (.pointer (some ⟨gC, k, none⟩)) rfl rfl (by kernel_rfl) (by kernel_rfl) (by kernel_rfl) hS (y_ix (k := k) (by rfl) rfl rfl rfl rfl (Nat.zero_add k) hkj) ?_
                  simp only [Act.put, List.setIfInBounds_toArray, List.set_cons_zero, List.set_cons_succ]
                  refine mv_yield (i := 9) (d := 100) (.int .i64 x) rfl rfl (by kernel_rfl) (by kernel_rfl) (by kernel_rfl) hS (y_cell (by rfl) rfl rfl cC) ?_
                  simp only [Act.put, List.setIfInBounds_toArray, List.set_cons_zero, List.set_cons_succ]
                  refine mv_yield (i := 10) (d := 101) (.slice (some ⟨gW, 0, none⟩) j j) rfl rfl (by kernel_rfl) (by kernel_rfl) (by kernel_rfl) hS (y_run (by rfl) fun _ => by rfl) ?_
                  simp only [Act.put, List.setIfInBounds_toArray, List.set_cons_zero, List.set_cons_succ]
                  refine mv_yield (i := 11) (d := 102) (.int .i64 ((k : Int))) rfl rfl (by kernel_rfl) (by kernel_rfl) (by kernel_rfl) hS (y_run (by rfl) fun _ => by rfl) ?_
                  simp only [Act.put, List.setIfInBounds_toArray, List.set_cons_zero, List.set_cons_succ]
                  refine mv_yield (i := 12) (d := 103) (.pointer (some ⟨gW, k, none⟩)) rfl rfl (by kernel_rfl) (by kernel_rfl) (by kernel_rfl) hS (y_ix (k := k) (by rfl) rfl rfl rfl rfl (Nat.zero_add k) hkj) ?_
                  simp only [Act.put, List.setIfInBounds_toArray, List.set_cons_zero, List.set_cons_succ]
                  refine mv_yield (i := 13) (d := 104) (.int .i64 x) rfl rfl (by kernel_rfl) (by kernel_rfl) (by kernel_rfl) hS (y_cell (by rfl) rfl rfl cW) ?_
                  simp only [Act.put, List.setIfInBounds_toArray, List.set_cons_zero, List.set_cons_succ]
                  refine mv_yield (i := 14) (d := 105) (.bool false) rfl rfl (by kernel_rfl) (by kernel_rfl) (by kernel_rfl) hS (y_nei (by rfl) rfl rfl rfl (by simp)) ?_
                  simp only [Act.put, List.setIfInBounds_toArray, List.set_cons_zero, List.set_cons_succ]
                  refine mv_yield (i := 15) (d := 106) (.bool false) rfl rfl (by kernel_rfl) (by kernel_rfl) (by kernel_rfl) hS (y_run (by rfl) fun _ => by rfl) ?_
                  simp only [Act.put, List.setIfInBounds_toArray, List.set_cons_zero, List.set_cons_succ]
                  refine mv_done (by kernel_rfl) ?_
                  go_wp2
                  go_roundw
                  case rel => exact ⟨k + 1, by omega, by go_num, HB8.out.drew⟩
                  case measure => simp [intOf]; omega
                · obtain rfl : k = j := by omega
                  go_wp2
                  go_ret
                  exact ⟨rfl, below_trans B7.out HB8.out B7.out.size⟩
end Go.Proofs.YtlnmpgbknalagaaDoor.Lv
