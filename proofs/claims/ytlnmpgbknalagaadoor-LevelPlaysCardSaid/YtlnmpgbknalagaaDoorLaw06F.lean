/- The statements' walks of layer 6, sixth part: LevelPlays, whole. -/
import Derived.Test.YtlnmpgbknalagaaDoorLaw06E
namespace Go.Proofs.YtlnmpgbknalagaaDoor.Lv
open Go.RowKit Go.Proofs.YtlnmpgbknalagaaDoor.Row

set_option maxRecDepth 100000 in
set_option maxHeartbeats 2000000 in
theorem levelPlays_none (T : Array Value) (f : Nat → Int) (hT : IsRow 16 f T) (l : Int) (a : Option Addr) (c : Nat) (y : Nat → Int) (w : World) (hTab : Tab w) (hl0 : -9223372036854775808 ≤ l) (hl1 : l ≤ 9223372036854775807) (hcm : c ≤ maxLen) :
    Calls Tryd.prog 6 #[.agg T, .int .i64 l, .slice a 0 c] w fun e w' => e = .returned (.bool true) ∧ Below w.heap.size w w' := by
  obtain ⟨Z, hZ, _, hz, hi⟩ := zero_4
  have hI16 : (Tryd.prog.info? 22).map (·.size) = some T.size := by obtain ⟨_, _, _, _, h⟩ := zero_row (t := 22) (m := 16) (by kernel_rfl); exact h T hT.1
  have HT := Lib.hid hT
  have HZ := Lib.hid hZ
  have HI := Lib.hid hi
  have HI16 := Lib.hid hI16
  have A0 := Lib.hid (At.new w T 22)
  have B0 := Lib.hid ((Below.refl w.heap.size w).alloc (Nat.le_refl _) (.cells T 22))
  have HTab0 := Lib.hid (hTab.below B0.out hTab.lt)
  clear hT hZ hi hI16 hTab
  go_enter Tryd.func6, Tryd.ntmps6
  go_wp2_with fail
  refine (awake_yes _ HTab0.out).mono ?_
  rintro e w1 ⟨rfl, hw1⟩
  have A1 := Lib.hid (A0.out.below hw1 A0.out.lt)
  have B1 := Lib.hid (below_trans B0.out hw1 B0.out.size)
  have HTab1 := Lib.hid (HTab0.out.next hw1)
  clear A0 B0 hw1 HTab0
  go_wp2_with (refine wpList_load_wanted (by rfl) 22 _ rfl w.heap.size rfl _ _ _ _ A1.out Tryd.underlying22 HI16.out ?_)
  refine (levels_any T f w1 HT.out HTab1.out).mono ?_
  rintro e w2 ⟨U, rfl, hU, hw2⟩
  have HU := Lib.hid hU
  have HS0 := Lib.hid (show PlS w T U w2.heap.size (w2.alloc (.cells U 30)) from ⟨(below_trans B1.out hw2 B1.out.size).alloc (Nat.le_trans B1.out.size hw2.size) _, (A1.out.below hw2 A1.out.lt).alloc _, At.new _ _ _⟩)
  clear hU hw2 A1 B1 HTab1
  go_wp2_with (refine wpList_store_row rfl 30 _ _ rfl w2.heap.size U rfl rfl _ _ (heap_alloc_new _ _) (HI.out _ HU.out.1) (by rw [HU.out.1, HZ.out.1]) HU.out.2.1 ?_; rw [World.setRow_alloc_new])
  revert HS0
  generalize w2.alloc (.cells U 30) = W0
  generalize w2.heap.size = bL
  intro HS0
  go_loopw [8] (fun i w' => ∃ k : Nat, k ≤ 4 ∧ i = .int .i64 k ∧ PlS w T U bL w') (fun i _ => 4 - (intOf i).toNat)
  case atStart => exact ⟨0, Nat.zero_le _, rfl, HS0.out⟩
  case round =>
    obtain ⟨k, hk, rfl, hs⟩ := hrel
    have HS := Lib.hid hs
    clear hs HS0
    by_cases hlt : k < 4
    · have hb := fs_bd k hlt
      have CB := Lib.hid (fun w => bounds_any k w hlt)
      have HLV := Lib.hid (show lvB f k = lv (fun i => f (fs k + i)) (fs (k + 1) - fs k) from rfl)
      obtain ⟨p, hp⟩ : ∃ p, fs k = p := ⟨_, rfl⟩
      obtain ⟨q, hq⟩ : ∃ q, fs (k + 1) = q := ⟨_, rfl⟩
      obtain ⟨m, hm⟩ : ∃ m, q - p = m := ⟨_, rfl⟩
      rw [hp, hq] at CB HLV hb
      rw [hm] at HLV
      have hcut := run_cut2 w.heap.size p q m (by omega) (by omega) (by omega)
      have hm16 : m ≤ 1000 := by omega
      have HM := Lib.hid (show p + m ≤ 16 by omega)
      obtain ⟨r, hr⟩ : ∃ r, lvB f k = r := ⟨_, rfl⟩
      have HR := Lib.hid hr
      have HR2 := Lib.hid (HLV.out.symm.trans hr)
      clear hp hq hm hb hr HLV
      go_wp2_with fail
      refine (CB.out _).mono ?_
      rintro e w5 ⟨rfl, hw5⟩
      have HS5 := Lib.hid (HS.out.below hw5)
      have cL : w5.cell? ⟨bL, k, none⟩ = some (.int .i64 r) := by rw [← HR.out]; exact HU.out.cell HS5.out.2.2 k hlt
      have CR := Lib.hid (fun (z : Nat) => HR2.out ▸ refLevel_any (some ⟨w.heap.size, p, none⟩) m (16 - p) (fun i => f (p + i)) (w5.drewN z) (by have h := HM.out; exact ⟨by omega, by unfold maxLen; omega, fun _ => ⟨w.heap.size, p, rfl, fun i hi => HT.out.cell HS5.out.2.1 (p + i) (by omega)⟩⟩) hm16)
      have k0 : (0 : Int) ≤ (k : Int) := by omega
      have k1 : (k : Int) < 4 := by omega
      clear hw5 HS CB
      go_wp2
      go_quiet ((go_at_call 16; with_reducible exact quiet_calls (CR.out _)))
      clear cL CR
      go_wp2
      go_roundw
      case rel => exact ⟨k + 1, by omega, by go_num, HS5.out.drewN _⟩
      case measure => simp [intOf]; omega
    · obtain rfl : k = 4 := by omega
      have HB := Lib.hid HS.out.1
      clear HS HU HT HI HI16 HZ
      obtain ⟨d, hd⟩ : ∃ d : Nat → Int, d = fun _ => 0 := ⟨_, rfl⟩
      clear hd hlt hk
      have A6 := Lib.hid (At.new wr (rowL 0 d 0) 3)
      have B6 := Lib.hid (HB.out.alloc HB.out.size (.cells (rowL 0 d 0) 3))
      have S0 := Lib.hid (fun w => (⟨Nat.zero_le _, hcm, fun h => absurd h (Nat.lt_irrefl _)⟩ : Sl .i64 w a 0 c y))
      have hcase : l < 0 ∨ (0 ≤ l ∧ 20 < l) ∨ (0 ≤ l ∧ l ≤ 20) := by omega
      rcases hcase with h1 | ⟨h1, h2⟩ | ⟨h1, h2⟩
      · have CC := Lib.hid (fun w => fill_any l a 0 c y w (S0.out w) (by omega))
        go_wp2
        refine wp_loop_rounds 1 ?_
        rw [rounds_succ]
        go_wp2_with (first
          | (at_make; refine wpList_make_rowL d rfl _ _ rfl 0 _ _ rfl rfl (by omega) ?_)
          | (go_at_call 14; (with_reducible refine (CC.out _).mono ?_); rintro e w7 ⟨gC, UC, rfl, hgC, hRC, hAC, hw7⟩; have B7 := Lib.hid (below_trans B6.out hw7 B6.out.size); clear hgC hRC hAC hw7))
        refine wp_loop_rounds 1 ?_
        rw [rounds_succ]
        go_wp2
        go_ret
        exact ⟨rfl, B7.out⟩
      · have CC := Lib.hid (fun w => fill_any l a 0 c y w (S0.out w) (by omega))
        go_wp2
        refine wp_loop_rounds 1 ?_
        rw [rounds_succ]
        go_wp2_with (first
          | (at_make; refine wpList_make_rowL d rfl _ _ rfl 0 _ _ rfl rfl (by omega) ?_)
          | (go_at_call 14; (with_reducible refine (CC.out _).mono ?_); rintro e w7 ⟨gC, UC, rfl, hgC, hRC, hAC, hw7⟩; have B7 := Lib.hid (below_trans B6.out hw7 B6.out.size); clear hgC hRC hAC hw7))
        refine wp_loop_rounds 1 ?_
        rw [rounds_succ]
        go_wp2
        go_ret
        exact ⟨rfl, B7.out⟩
      · have CC := Lib.hid (fun w => fill_any l a 0 c y w (S0.out w) (by omega))
        have CF := Lib.hid (fun w => refFill_any l a 0 c y w (S0.out w) (by omega) rfl h1 h2)
        go_wp2
        refine wp_loop_rounds 1 ?_
        rw [rounds_succ]
        go_wp2_with (first
          | (at_make; refine wpList_make_rowL d rfl _ _ rfl 0 _ _ rfl rfl (by omega) ?_)
          | (go_at_call 17; (with_reducible refine (CF.out _).mono ?_); rintro e w6 ⟨gW, UW, rfl, hgW, hRW, hAW, hw6⟩; have B6' := Lib.hid (below_trans B6.out hw6 B6.out.size); clear hgW hRW hAW hw6)
          | (go_at_call 14; (with_reducible refine (CC.out _).mono ?_); rintro e w7 ⟨gC, UC, rfl, hgC, hRC, hAC, hw7⟩; have B7 := Lib.hid (below_trans B6'.out hw7 B6'.out.size); clear hgC hRC hAC hw7))
        refine wp_loop_rounds 1 ?_
        rw [rounds_succ]
        go_wp2
        go_ret
        exact ⟨rfl, B7.out⟩

theorem levelPlays_walk (T : Array Value) (f : Nat → Int) (hT : IsRow 16 f T) (l : Int) (a : Option Addr) (n c : Nat) (y : Nat → Int) (w : World) (w1 : (Lit.int .i64 l).wf = true) (hS : Sl .i64 w a n c y) (hTab : Tab w) :
    Calls Tryd.prog 6 #[.agg T, .int .i64 l, .slice a n c] w fun e w' => e = .returned (.bool true) ∧ Below w.heap.size w w' := by
  have hl : -9223372036854775808 ≤ l ∧ l ≤ 9223372036854775807 := by simpa [Lit.wf, IntKind.min, IntKind.max, IntKind.bits, IntKind.signed] using w1
  by_cases h60 : 60 < n
  · exact levelPlays_long T l a n c w hTab h60 (Nat.le_trans hS.1 hS.2.1)
  · by_cases h0 : n = 0
    · subst h0; exact levelPlays_none T f hT l a c y w hTab hl.1 hl.2 hS.2.1
    · obtain ⟨b, o, rfl, _⟩ := hS.2.2 (by omega)
      exact levelPlays_some T f hT l b o n c y w hTab hl.1 hl.2 (by omega) (by omega) hS
end Go.Proofs.YtlnmpgbknalagaaDoor.Lv
