/- The statements' walks of layer 6, first part: LevelParts. -/
import Derived.Test.YtlnmpgbknalagaaDoorLvG
namespace Go.Proofs.YtlnmpgbknalagaaDoor.Lv
open Go.RowKit Go.Proofs.YtlnmpgbknalagaaDoor.Row

theorem enter_band (args : Array Value) (w : World) : (callFunc 12 args).run Tryd.prog w = .ok (.enter 12 args) w := run_enter Tryd.func12 (by kernel_rfl) rfl args w
theorem enter_put (args : Array Value) (w : World) : (callFunc 10 args).run Tryd.prog w = .ok (.enter 10 args) w := run_enter Tryd.func10 (by kernel_rfl) rfl args w

/-- A frame of which the first bands are put. -/
def ptF (f : Nat → Int) (k i : Nat) : Int := if i < fs k then f i else 0
theorem ptF_next (f : Nat → Int) (k : Nat) (hk : k < 4) (i : Nat) : over (ptF f k) (fun i => f (fs k + i)) (fs k) (fs (k + 1) - fs k) i = ptF f (k + 1) i := by
  have := fs_bd k hk
  unfold over ptF
  by_cases h1 : i < fs k
  · rw [if_neg (by omega), if_pos h1, if_pos (by omega)]
  · by_cases h2 : i < fs (k + 1)
    · rw [if_pos (by omega), if_pos h2]
      show f (fs k + (i - fs k)) = f i
      rw [show fs k + (i - fs k) = i by omega]
    · rw [if_neg (by omega), if_neg h1, if_neg h2]

/-- What holds while the bands are put. -/
def PtS (w : World) (T X : Array Value) (b0 bx : Nat) (w' : World) : Prop := Below w.heap.size w w' ∧ w.heap.size ≤ bx ∧ b0 ≠ bx ∧ At w' b0 T 22 ∧ At w' bx X 25
theorem PtS.below {w w1 w2 : World} {T X : Array Value} {b0 bx : Nat} (h : PtS w T X b0 bx w1) (hb : Below w1.heap.size w1 w2) : PtS w T X b0 bx w2 := by
  obtain ⟨h1, h2, h3, h4, h5⟩ := h
  exact ⟨below_trans h1 hb h1.size, h2, h3, h4.below hb h4.lt, h5.below hb h5.lt⟩
theorem PtS.set {w w1 : World} {T X U : Array Value} {b0 bx : Nat} (h : PtS w T X b0 bx w1) : PtS w T U b0 bx (w1.setRow bx U) := by
  obtain ⟨h1, h2, h3, h4, h5⟩ := h
  exact ⟨below_setRow' h1 h2 U, h2, h3, h4.setRow_other h3, h5.setRow⟩

set_option maxRecDepth 100000 in
set_option maxHeartbeats 1000000 in
theorem levelParts_walk (T : Array Value) (f : Nat → Int) (hT : IsRow 16 f T) (w : World) (hTab : Tab w) :
    Calls Tryd.prog 7 #[.agg T] w fun e w' => e = .returned (.bool true) ∧ Below w.heap.size w w' := by
  obtain ⟨Z, hZ, hZ0, hz, hi⟩ := zero_block
  have hI16 : (Tryd.prog.info? 22).map (·.size) = some T.size := by obtain ⟨_, _, _, _, h⟩ := zero_row (t := 22) (m := 16) (by kernel_rfl); exact h T hT.1
  have HT := Lib.hid hT
  have HZ := Lib.hid hZ
  have HI := Lib.hid hi
  have HI16 := Lib.hid hI16
  have A0 := Lib.hid (At.new w T 22)
  have B0 := Lib.hid ((Below.refl w.heap.size w).alloc (Nat.le_refl _) (.cells T 22))
  have HTab := Lib.hid hTab
  have HTab0 := Lib.hid (hTab.below B0.out hTab.lt)
  clear hT hZ hi hZ0 hI16 hTab
  go_enter Tryd.func7, Tryd.ntmps7
  go_wp2_with fail
  refine (awake_yes _ HTab0.out).mono ?_
  rintro e w1 ⟨rfl, hw1⟩
  have A1 := Lib.hid (A0.out.below hw1 A0.out.lt)
  have B1 := Lib.hid (below_trans B0.out hw1 B0.out.size)
  clear A0 B0 hw1 HTab0
  go_wp2
  have hs0 : PtS w T Z w.heap.size w1.heap.size (w1.alloc (.cells Z 25)) := ⟨B1.out.alloc B1.out.size _, B1.out.size, by have := A1.out.lt; omega, A1.out.alloc _, At.new _ _ _⟩
  have hx0 : IsRow 16 (ptF f 0) Z := HZ.out.ext fun i _ => by unfold ptF; rw [if_neg (by simp [fs])]
  have HS0 := Lib.hid hs0
  have HX0 := Lib.hid hx0
  clear hs0 hx0
  revert HS0 HX0
  generalize w1.alloc (.cells Z 25) = W0
  generalize w1.heap.size = bx
  intro HS0 HX0
  clear A1 B1
  go_loopw [4, 5] (fun n b w' => ∃ k : Nat, k ≤ 4 ∧ b = .int .i64 k ∧ n = .int .i64 (fs k : Nat) ∧ ∃ X, IsRow 16 (ptF f k) X ∧ PtS w T X w.heap.size bx w') (fun _ b _ => 4 - (intOf b).toNat)
  case atStart => exact ⟨0, Nat.zero_le _, rfl, rfl, Z, HX0.out, HS0.out⟩
  case round =>
    obtain ⟨k, hk, rfl, rfl, X, hX, hs⟩ := hrel
    have HS := Lib.hid hs
    have HX := Lib.hid hX
    clear HS0 HX0 hs hX
    by_cases hlt : k < 4
    · have hb := fs_bd k hlt
      have CB := Lib.hid (fun w (hT' : Tab w) => band_any T f (k : Int) (fs k) (fs (k + 1)) (fs (k + 1) - fs k) w HT.out hT' (lo_nat k hlt) (hi_nat k hlt) rfl)
      have CP := Lib.hid (fun (g : Nat) (w : World) (hT' : Tab w) (hS' : Sl .i64 w (some ⟨g, 0, none⟩) (fs (k + 1) - fs k) (fs (k + 1) - fs k) (fun i => f (fs k + i))) => put_some X (ptF f k) (fun i => f (fs k + i)) (k : Int) (some ⟨g, 0, none⟩) (fs (k + 1) - fs k) (fs (k + 1) - fs k) (fs k) (fs (k + 1)) w HX.out hT' hS' (lo_nat k hlt) (hi_nat k hlt) (by omega) (by omega) (by omega))
      have HF := Lib.hid (ptF_next f k hlt)
      have HSz := Lib.hid (show ((hi (k : Int) : Nat) : Int) - (lo (k : Int) : Nat) = ((fs (k + 1) - fs k : Nat) : Int) by rw [lo_nat k hlt, hi_nat k hlt]; omega)
      obtain ⟨l, hl⟩ : ∃ l, fs k = l := ⟨_, rfl⟩
      obtain ⟨h, hh⟩ : ∃ h, fs (k + 1) = h := ⟨_, rfl⟩
      obtain ⟨n, hn⟩ : ∃ n, h - l = n := ⟨_, rfl⟩
      rw [hl, hh, hn] at CB CP HF
      rw [hl, hh, hn] at HSz
      rw [hl, hh] at hb
      have HH := Lib.hid (show fs (k + 1) = l + n by omega)
      have hn16 : n ≤ 16 := by omega
      have hl16 : l ≤ 16 := by omega
      have hnm : n ≤ maxLen := by unfold maxLen; omega
      rw [hl]
      clear hl hh hn
      go_wp2_with fail
      have HTr := Lib.hid (HTab.out.below HS.out.1 HTab.out.lt)
      refine mf_start (SB wr) (fun j => j == 6) (Below.refl _ _).drew fun hS => ?_
      refine mf_yield (i := 0) (d := 12) (.agg X) rfl rfl (by kernel_rfl) (by kernel_rfl) (by kernel_rfl) (by kernel_rfl) hS (y_load (by rfl) rfl rfl HS.out.2.2.2.2 Tryd.underlying25 (HI.out _ HX.out.1)) ?_
      simp only [Act.put, List.setIfInBounds_toArray, List.set_cons_zero, List.set_cons_succ]
      refine mf_yield (i := 1) (d := 13) (.int .i64 k) rfl rfl (by kernel_rfl) (by kernel_rfl) (by kernel_rfl) (by kernel_rfl) hS (y_run (by rfl) fun _ => by rfl) ?_
      simp only [Act.put, List.setIfInBounds_toArray, List.set_cons_zero, List.set_cons_succ]
      refine mf_yield (i := 2) (d := 14) (.agg T) rfl rfl (by kernel_rfl) (by kernel_rfl) (by kernel_rfl) (by kernel_rfl) hS (y_load (by rfl) rfl rfl HS.out.2.2.2.1 Tryd.underlying22 HI16.out) ?_
      simp only [Act.put, List.setIfInBounds_toArray, List.set_cons_zero, List.set_cons_succ]
      refine mf_yield (i := 3) (d := 15) (.int .i64 k) rfl rfl (by kernel_rfl) (by kernel_rfl) (by kernel_rfl) (by kernel_rfl) hS (y_run (by rfl) fun _ => by rfl) ?_
      simp only [Act.put, List.setIfInBounds_toArray, List.set_cons_zero, List.set_cons_succ]
      refine mf_ready [4] (by kernel_rfl) (by simp) (af_call (i := 4) (d := 16) #[.agg T, .int .i64 k] rfl rfl (by rfl) rfl enter_band (by kernel_rfl) ((CB.out _ (HTr.out.next (Below.refl _ _).drew)).mono fun _ _ h => h.out) (fun v w' h => below_trans hS h.below hS.size) ?_ AllReadyF.nil)
      clear hS
      rintro v w2 ⟨g, U, rfl, hg, hU, hA, hw2⟩ hS
      simp only [Act.put, List.setIfInBounds_toArray, List.set_cons_zero, List.set_cons_succ]
      have HT2 := HTr.out.next hS
      have HU := Lib.hid (Sl.of_isRow hU hA hnm)
      clear hg hU hA hw2
      refine mf_ready [5] (by kernel_rfl) (by simp) (af_call (i := 5) (d := 17) #[.agg X, .int .i64 k, .slice (some ⟨g, 0, none⟩) n n] rfl rfl (by rfl) rfl enter_put (by kernel_rfl) ((CP.out g _ HT2 HU.out).mono fun _ _ h => h.out) (fun v w' h => below_trans hS h.below hS.size) ?_ AllReadyF.nil)
      clear hS HT2 HU
      rintro v w3 ⟨U, rfl, hU, hw3⟩ hS
      simp only [Act.put, List.setIfInBounds_toArray, List.set_cons_zero, List.set_cons_succ]
      have HS3 := Lib.hid (HS.out.below hS)
      have HU := Lib.hid hU
      clear hS hU hw3
      refine mf_ready [6] (by kernel_rfl) (by simp) (af_store (i := 6) bx U X rfl rfl (by rfl) rfl rfl rfl rfl HS3.out.2.2.2.2 (by rw [HX.out.1, HU.out.1]) HU.out.2.1 (HI.out _ HU.out.1) ?_ AllReadyF.nil)
      refine mf_done (by kernel_rfl) ?_
      have HS4 := Lib.hid (HS3.out.set (U := U))
      have HT4 := Lib.hid (HTab.out.below HS4.out.1 HTab.out.lt)
      go_wp2_with (go_at_call 11; (with_reducible refine (size_as (k : Int) (n : Int) _ HT4.out HSz.out).mono ?_); rintro e w5 ⟨rfl, hw5⟩)
      go_roundw
      case rel => exact ⟨k + 1, by omega, by go_num, by rw [HH.out]; go_num, U, HU.out.ext fun i _ => HF.out i, HS4.out.below (by assumption)⟩
      case measure => simp [intOf]; omega
    · obtain rfl : k = 4 := by omega
      have e1 := rows_eq HX.out HT.out (fun i hi => by unfold ptF; rw [if_pos (show i < fs 4 from hi)]) Tryd.underlying25
      have e0 := no_guard
      have hf4 : fs 4 = 16 := rfl
      rw [hf4]
      clear hf4
      go_wp2_with (first
        | refine wpList_load_wanted (by rfl) 25 _ rfl bx rfl _ _ _ _ HS.out.2.2.2.2 Tryd.underlying25 (HI.out _ HX.out.1) ?_
        | refine wpList_load_wanted (by rfl) 22 _ rfl w.heap.size rfl _ _ _ _ HS.out.2.2.2.1 Tryd.underlying22 HI16.out ?_)
      go_ret
      exact ⟨rfl, HS.out.1⟩
end Go.Proofs.YtlnmpgbknalagaaDoor.Lv
