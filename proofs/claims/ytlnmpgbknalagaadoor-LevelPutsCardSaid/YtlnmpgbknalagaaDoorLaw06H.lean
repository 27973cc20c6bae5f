/- The statements' walks of layer 6, eighth part: LevelPuts, whole. -/
import Derived.Test.YtlnmpgbknalagaaDoorLaw06G
namespace Go.Proofs.YtlnmpgbknalagaaDoor.Lv
open Go.RowKit Go.Proofs.YtlnmpgbknalagaaDoor.Row

theorem bands_apart (i k j : Nat) (hi : i < 4) (hk : k < 4) (hne : k ≠ i) (hj : fs k + j < fs (k + 1)) : ¬ (fs i ≤ fs k + j ∧ fs k + j < fs (i + 1)) := by
  have : ∀ i : Fin 4, ∀ k : Fin 4, k ≠ i → fs (k.val + 1) ≤ fs i.val ∨ fs (i.val + 1) ≤ fs k.val := by decide
  have := this ⟨i, hi⟩ ⟨k, hk⟩ (by intro e; injection e with e; exact hne e)
  dsimp only at this
  omega
theorem over_band (f g : Nat → Int) (i k j : Nat) (hi : i < 4) (hk : k < 4) (hj : j < fs (k + 1) - fs k) :
    over f g (fs i) (fs (i + 1) - fs i) (fs k + j) = if k = i then g j else f (fs k + j) := by
  have := fs_bd i hi
  unfold over
  by_cases e : k = i
  · subst e
    rw [if_pos rfl, if_pos (by omega), show fs k + j - fs k = j by omega]
  · rw [if_neg e, if_neg]
    have := bands_apart i k j hi hk e (by omega)
    omega
theorem bne_self (x : Int) : (x != x) = false := by simp

set_option maxRecDepth 100000 in
set_option maxHeartbeats 1000000 in
theorem levelPuts_some (T : Array Value) (f : Nat → Int) (hT : IsRow 16 f T) (i : Nat) (a : Option Addr) (n c : Nat) (g : Nat → Int) (w : World) (hTab : Tab w) (hS : Sl .i64 w a n c g) (hn : n ≤ 100) (hi4 : i < 4) (hni : n = fs (i + 1) - fs i) :
    Calls Tryd.prog 3 #[.agg T, .int .i64 i, .slice a n c] w fun e w' => e = .returned (.bool true) ∧ Below w.heap.size w w' := by
  obtain ⟨Z, hZ, hZ0, hz, hi16⟩ := zero_block
  have hI16 : (Tryd.prog.info? 22).map (·.size) = some T.size := by obtain ⟨_, _, _, _, h⟩ := zero_row (t := 22) (m := 16) (by kernel_rfl); exact h T hT.1
  have HT := Lib.hid hT
  have HZ := Lib.hid hZ
  have HI := Lib.hid hi16
  have HI16 := Lib.hid hI16
  have HSl := Lib.hid hS
  have A0 := Lib.hid (At.new w T 22)
  have B0 := Lib.hid ((Below.refl w.heap.size w).alloc (Nat.le_refl _) (.cells T 22))
  have HTab := Lib.hid hTab
  have HTab0 := Lib.hid (hTab.below B0.out hTab.lt)
  clear hT hZ hi16 hZ0 hI16 hTab hS
  have hib := fs_bd i hi4
  have h0 : 0 < n := by omega
  have HPF := Lib.hid (show putF f g (i : Int) n = over f g (fs i) (fs (i + 1) - fs i) by unfold putF; rw [lo_nat i hi4, hi_nat i hi4, if_pos hni, hni])
  have HSZ := Lib.hid (show ((hi (i : Int) : Nat) : Int) - (lo (i : Int) : Nat) = (n : Int) by rw [lo_nat i hi4, hi_nat i hi4]; omega)
  obtain ⟨b, o, rfl, hc⟩ := HSl.out.2.2 h0
  have HC := Lib.hid hc
  have HNI := Lib.hid hni
  have i0 : (0 : Int) ≤ (i : Int) := by omega
  have i3 : (i : Int) ≤ 3 := by omega
  have hne : (((n : Nat) : Int) != (n : Int)) = false := by simp
  clear hc hni hib
  go_enter Tryd.func3, Tryd.ntmps3
  go_wp2_with fail
  refine (awake_yes _ HTab0.out).mono ?_
  rintro e w1 ⟨rfl, hw1⟩
  have A1 := Lib.hid (A0.out.below hw1 A0.out.lt)
  have B1 := Lib.hid (below_trans B0.out hw1 B0.out.size)
  have HTab1 := Lib.hid (HTab.out.below B1.out HTab.out.lt)
  clear A0 B0 hw1 HTab0
  go_wp2_with (refine wpList_load_wanted (by rfl) 22 _ rfl w.heap.size rfl _ _ _ _ A1.out Tryd.underlying22 HI16.out ?_)
  refine (put_any T f g (i : Int) (some ⟨b, o, none⟩) n c w1 HT.out HTab1.out (HSl.out.below B1.out)).mono ?_
  rintro e w2 ⟨X, rfl, hX, hw2⟩
  have HX := Lib.hid (HPF.out ▸ hX)
  have HS := Lib.hid (show PtS w T X w.heap.size w2.heap.size (w2.alloc (.cells X 25)) from ⟨(below_trans B1.out hw2 B1.out.size).alloc (Nat.le_trans B1.out.size hw2.size) _, Nat.le_trans B1.out.size hw2.size, by have h1 := A1.out.lt; have h2 := hw2.size; omega, (A1.out.below hw2 A1.out.lt).alloc _, At.new _ _ _⟩)
  clear hX hw2 A1 B1 HTab1
  have HT3 := Lib.hid (HTab.out.below HS.out.1 HTab.out.lt)
  go_wp2_with (first
    | (refine wpList_store_row rfl 25 _ _ rfl w2.heap.size X rfl rfl _ _ (heap_alloc_new _ _) (HI.out _ HX.out.1) (by rw [HX.out.1, HZ.out.1]) HX.out.2.1 ?_; rw [World.setRow_alloc_new])
    | (go_at_call 11; (with_reducible refine (size_as (i : Int) (n : Int) _ HT3.out HSZ.out).mono ?_); rintro e w5 ⟨rfl, hw5⟩; have HS5 := Lib.hid (HS.out.below hw5); clear hw5))
  clear HT3 HS
  revert HS5
  generalize w2.heap.size = bx
  intro HS5
  go_loopw [8] (fun q w' => ∃ k : Nat, k ≤ 4 ∧ q = .int .i64 k ∧ PtS w T X w.heap.size bx w') (fun q _ => 4 - (intOf q).toNat)
  case atStart => exact ⟨0, Nat.zero_le _, rfl, HS5.out⟩
  case round =>
    obtain ⟨k, hk, rfl, hs⟩ := hrel
    have HS := Lib.hid hs
    clear hs HS5
    by_cases hlt : k < 4
    · have hkb := fs_bd k hlt
      obtain ⟨m, hm⟩ : ∃ m, fs (k + 1) - fs k = m := ⟨_, rfl⟩
      have CBT := Lib.hid (fun w h => band_any T f (k : Int) (fs k) (fs (k + 1)) m w HT.out h (lo_nat k hlt) (hi_nat k hlt) hm)
      have CBX := Lib.hid (fun w h => band_any X _ (k : Int) (fs k) (fs (k + 1)) m w HX.out h (lo_nat k hlt) (hi_nat k hlt) hm)
      have HSm := Lib.hid (show ((hi (k : Int) : Nat) : Int) - (lo (k : Int) : Nat) = (m : Int) by rw [lo_nat k hlt, hi_nat k hlt]; omega)
      have HO := Lib.hid (fun j (hj : j < m) => over_band f g i k j hi4 hlt (by omega))
      have HT1 := Lib.hid (HTab.out.below HS.out.1 HTab.out.lt)
      have hmm : (((m : Nat) : Int) != (m : Int)) = false := by simp
      have m16 : m ≤ 16 := by omega
      have HMI := Lib.hid (show k = i → m = n by intro e; subst e; rw [← hm]; exact HNI.out.symm)
      clear hkb hm
      by_cases hki : k = i
      · obtain rfl : m = n := HMI.out hki
        have hkt : ((k : Int) == (i : Int)) = true := by rw [hki]; simp
        have HXV := Lib.hid (fun j hj => (HO.out j hj).trans (if_pos hki))
        clear HO HMI hki
        go_wp2_with (first
          | (refine wpList_load_wanted (by rfl) 22 _ rfl w.heap.size rfl _ _ _ _ HS.out.2.2.2.1 Tryd.underlying22 HI16.out ?_)
          | (go_at_call 12; (with_reducible refine (CBT.out _ HT1.out).mono ?_); rintro e w6 ⟨g1, U1, rfl, hg1, hU1, hA1, hw6⟩; have HU1 := Lib.hid hU1; have HA1 := Lib.hid hA1; have HS6 := Lib.hid (HS.out.below hw6); have HT6 := Lib.hid (HTab.out.below HS6.out.1 HTab.out.lt); clear hg1 hU1 hA1 hw6)
          | (refine wpList_load_wanted (by rfl) 25 _ rfl bx rfl _ _ _ _ HS6.out.2.2.2.2 Tryd.underlying25 (HI.out _ HX.out.1) ?_)
          | (go_at_call 12; (with_reducible refine (CBX.out _ HT6.out).mono ?_); rintro e w7 ⟨g2, U2, rfl, hg2, hU2, hA2, hw7⟩; have HU2 := Lib.hid hU2; have HA2 := Lib.hid hA2; have HA17 := Lib.hid (HA1.out.below hw7 HA1.out.lt); have HS7 := Lib.hid (HS6.out.below hw7); have HT7 := Lib.hid (HTab.out.below HS7.out.1 HTab.out.lt); clear hg2 hU2 hA2 hw7)
          | (go_at_call 11; (with_reducible refine (size_as (k : Int) (m : Int) _ HT7.out HSm.out).mono ?_); rintro e w8 ⟨rfl, hw8⟩; have HA28 := Lib.hid (HA2.out.below hw8 HA2.out.lt); have HA18 := Lib.hid (HA17.out.below hw8 HA17.out.lt); have HS8 := Lib.hid (HS7.out.below hw8); clear hw8))
        clear HA1 HS HS6 HT6 HT7 HA2 HA17 HS7 CBT CBX HT1
        go_loopw [11] (fun q w' => ∃ j : Nat, j ≤ m ∧ q = .int .i64 j ∧ Below w8.heap.size w8 w') (fun q _ => m - (intOf q).toNat)
        case atStart => exact ⟨0, Nat.zero_le _, rfl, Below.refl _ _⟩
        case round =>
          obtain ⟨j, hj, rfl, hb⟩ := hrel
          have HB9 := Lib.hid hb
          clear hb
          by_cases hj1 : j < m
          · have c10 := HU2.out.cell (HA28.out.below HB9.out HA28.out.lt) j hj1
            have c9' := (Below.cell (HS8.out.1.trans (HB9.out.mono HS8.out.1.size)) (block_lt_of_cell (HC.out j hj1))).trans (HC.out j hj1)
            rw [HXV.out j hj1] at c10
            obtain ⟨x, hx⟩ : ∃ x, g j = x := ⟨_, rfl⟩
            rw [hx] at c10 c9'
            obtain ⟨q9, hq9⟩ : ∃ q9, o + j = q9 := ⟨_, rfl⟩
            have HQ := Lib.hid hq9
            rw [hq9] at c9'
            have c9 := c9'
            clear hx hq9 c9'
            go_wp2_with fail
            refine mv_start fun hS => ?_
            refine mv_yield (i := 0) (d := 92) (.slice (some ⟨g2, 0, none⟩) m m) rfl rfl (by kernel_rfl) (by kernel_rfl) (by kernel_rfl) hS (y_run (by rfl) fun _ => by rfl) ?_
            simp only [Act.put, List.setIfInBounds_toArray, List.set_cons_zero, List.set_cons_succ]
            refine mv_yield (i := 1) (d := 93) (.int .i64 ((j : Int))) rfl rfl (by kernel_rfl) (by kernel_rfl) (by kernel_rfl) hS (y_run (by rfl) fun _ => by rfl) ?_
            simp only [Act.put, List.setIfInBounds_toArray, List.set_cons_zero, List.set_cons_succ]
            refine mv_yield (i := 2) (d := 94) (.pointer (some ⟨g2, j, none⟩)) rfl rfl (by kernel_rfl) (by kernel_rfl) (by kernel_rfl) hS (y_ix (k := j) (by rfl) rfl rfl rfl rfl (Nat.zero_add j) hj1) ?_
            simp only [Act.put, List.setIfInBounds_toArray, List.set_cons_zero, List.set_cons_succ]
            refine mv_yield (i := 3) (d := 95) (.int .i64 x) rfl rfl (by kernel_rfl) (by kernel_rfl) (by kernel_rfl) hS (y_cell (by rfl) rfl rfl c10) ?_
            simp only [Act.put, List.setIfInBounds_toArray, List.set_cons_zero, List.set_cons_succ]
            refine mv_yield (i := 4) (d := 96) (.slice (some ⟨b, o, none⟩) m c) rfl rfl (by kernel_rfl) (by kernel_rfl) (by kernel_rfl) hS (y_run (by rfl) fun _ => by rfl) ?_
            simp only [Act.put, List.setIfInBounds_toArray, List.set_cons_zero, List.set_cons_succ]
            refine mv_yield (i := 5) (d := 97) (.int .i64 ((j : Int))) rfl rfl (by kernel_rfl) (by kernel_rfl) (by kernel_rfl) hS (y_run (by rfl) fun _ => by rfl) ?_
            simp only [Act.put, List.setIfInBounds_toArray, List.set_cons_zero, List.set_cons_succ]
            refine mv_yield (i := 6) (d := 98) (.pointer (some ⟨b, q9, none⟩)) rfl rfl (by kernel_rfl) (by kernel_rfl) (by kernel_rfl) hS (y_ix (k := j) (by rfl) rfl rfl rfl rfl HQ.out hj1) ?_
            simp only [Act.put, List.setIfInBounds_toArray, List.set_cons_zero, List.set_cons_succ]
            refine mv_yield (i := 7) (d := 99) (.int .i64 x) rfl rfl (by kernel_rfl) (by kernel_rfl) (by kernel_rfl) hS (y_cell (by rfl) rfl rfl c9) ?_
            simp only [Act.put, List.setIfInBounds_toArray, List.set_cons_zero, List.set_cons_succ]
            refine mv_yield (i := 8) (d := 100) (.bool false) rfl rfl (by kernel_rfl) (by kernel_rfl) (by kernel_rfl) hS (y_nei (by rfl) rfl rfl rfl (bne_self x)) ?_
            simp only [Act.put, List.setIfInBounds_toArray, List.set_cons_zero, List.set_cons_succ]
            refine mv_done (by kernel_rfl) ?_
            go_wp2
            go_roundw
            case rel => exact ⟨j + 1, by omega, by go_num, HB9.out.drew⟩
            case measure => simp [intOf]; omega
          · obtain rfl : j = m := by omega
            have HS9 := Lib.hid (HS8.out.below HB9.out)
            go_wp2
            go_roundw
            case rel => exact ⟨k + 1, by omega, by go_num, HS9.out⟩
            case measure => simp [intOf]; omega
      · have hkt : ((k : Int) == (i : Int)) = false := by rw [beq_eq_false_iff_ne]; omega
        have HXV := Lib.hid (fun j hj => (HO.out j hj).trans (if_neg hki))
        clear HO HMI hki
        go_wp2_with (first
          | (refine wpList_load_wanted (by rfl) 22 _ rfl w.heap.size rfl _ _ _ _ HS.out.2.2.2.1 Tryd.underlying22 HI16.out ?_)
          | (go_at_call 12; (with_reducible refine (CBT.out _ HT1.out).mono ?_); rintro e w6 ⟨g1, U1, rfl, hg1, hU1, hA1, hw6⟩; have HU1 := Lib.hid hU1; have HA1 := Lib.hid hA1; have HS6 := Lib.hid (HS.out.below hw6); have HT6 := Lib.hid (HTab.out.below HS6.out.1 HTab.out.lt); clear hg1 hU1 hA1 hw6)
          | (refine wpList_load_wanted (by rfl) 25 _ rfl bx rfl _ _ _ _ HS6.out.2.2.2.2 Tryd.underlying25 (HI.out _ HX.out.1) ?_)
          | (go_at_call 12; (with_reducible refine (CBX.out _ HT6.out).mono ?_); rintro e w7 ⟨g2, U2, rfl, hg2, hU2, hA2, hw7⟩; have HU2 := Lib.hid hU2; have HA2 := Lib.hid hA2; have HA17 := Lib.hid (HA1.out.below hw7 HA1.out.lt); have HS7 := Lib.hid (HS6.out.below hw7); have HT7 := Lib.hid (HTab.out.below HS7.out.1 HTab.out.lt); clear hg2 hU2 hA2 hw7)
          | (go_at_call 11; (with_reducible refine (size_as (k : Int) (m : Int) _ HT7.out HSm.out).mono ?_); rintro e w8 ⟨rfl, hw8⟩; have HA28 := Lib.hid (HA2.out.below hw8 HA2.out.lt); have HA18 := Lib.hid (HA17.out.below hw8 HA17.out.lt); have HS8 := Lib.hid (HS7.out.below hw8); clear hw8))
        clear HA1 HS HS6 HT6 HT7 HA2 HA17 HS7 CBT CBX HT1
        go_loopw [11] (fun q w' => ∃ j : Nat, j ≤ m ∧ q = .int .i64 j ∧ Below w8.heap.size w8 w') (fun q _ => m - (intOf q).toNat)
        case atStart => exact ⟨0, Nat.zero_le _, rfl, Below.refl _ _⟩
        case round =>
          obtain ⟨j, hj, rfl, hb⟩ := hrel
          have HB9 := Lib.hid hb
          clear hb
          by_cases hj1 : j < m
          · have c10 := HU2.out.cell (HA28.out.below HB9.out HA28.out.lt) j hj1
            have c9 := HU1.out.cell (HA18.out.below HB9.out HA18.out.lt) j hj1
            rw [HXV.out j hj1] at c10
            obtain ⟨x, hx⟩ : ∃ x, f (fs k + j) = x := ⟨_, rfl⟩
            rw [hx] at c10 c9
            clear hx
            go_wp2_with fail
            refine mv_start fun hS => ?_
            refine mv_yield (i := 0) (d := 92) (.slice (some ⟨g2, 0, none⟩) m m) rfl rfl (by kernel_rfl) (by kernel_rfl) (by kernel_rfl) hS (y_run (by rfl) fun _ => by rfl) ?_
            simp only [Act.put, List.setIfInBounds_toArray, List.set_cons_zero, List.set_cons_succ]
            refine mv_yield (i := 1) (d := 93) (.int .i64 ((j : Int))) rfl rfl (by kernel_rfl) (by kernel_rfl) (by kernel_rfl) hS (y_run (by rfl) fun _ => by rfl) ?_
            simp only [Act.put, List.setIfInBounds_toArray, List.set_cons_zero, List.set_cons_succ]
            refine mv_yield (i := 2) (d := 94) (.pointer (some ⟨g2, j, none⟩)) rfl rfl (by kernel_rfl) (by kernel_rfl) (by kernel_rfl) hS (y_ix (k := j) (by rfl) rfl rfl rfl rfl (Nat.zero_add j) hj1) ?_
            simp only [Act.put, List.setIfInBounds_toArray, List.set_cons_zero, List.set_cons_succ]
            refine mv_yield (i := 3) (d := 95) (.int .i64 x) rfl rfl (by kernel_rfl) (by kernel_rfl) (by kernel_rfl) hS (y_cell (by rfl) rfl rfl c10) ?_
            simp only [Act.put, List.setIfInBounds_toArray, List.set_cons_zero, List.set_cons_succ]
            refine mv_yield (i := 4) (d := 96) (.slice (some ⟨g1, 0, none⟩) m m) rfl rfl (by kernel_rfl) (by kernel_rfl) (by kernel_rfl) hS (y_run (by rfl) fun _ => by rfl) ?_
            simp only [Act.put, List.setIfInBounds_toArray, List.set_cons_zero, List.set_cons_succ]
            refine mv_yield (i := 5) (d := 97) (.int .i64 ((j : Int))) rfl rfl (by kernel_rfl) (by kernel_rfl) (by kernel_rfl) hS (y_run (by rfl) fun _ => by rfl) ?_
            simp only [Act.put, List.setIfInBounds_toArray, List.set_cons_zero, List.set_cons_succ]
            refine mv_yield (i := 6) (d := 98) (.pointer (some ⟨g1, j, none⟩)) rfl rfl (by kernel_rfl) (by kernel_rfl) (by kernel_rfl) hS (y_ix (k := j) (by rfl) rfl rfl rfl rfl (Nat.zero_add j) hj1) ?_
            simp only [Act.put, List.setIfInBounds_toArray, List.set_cons_zero, List.set_cons_succ]
            refine mv_yield (i := 7) (d := 99) (.int .i64 x) rfl rfl (by kernel_rfl) (by kernel_rfl) (by kernel_rfl) hS (y_cell (by rfl) rfl rfl c9) ?_
            simp only [Act.put, List.setIfInBounds_toArray, List.set_cons_zero, List.set_cons_succ]
            refine mv_yield (i := 8) (d := 100) (.bool false) rfl rfl (by kernel_rfl) (by kernel_rfl) (by kernel_rfl) hS (y_nei (by rfl) rfl rfl rfl (bne_self x)) ?_
            simp only [Act.put, List.setIfInBounds_toArray, List.set_cons_zero, List.set_cons_succ]
            refine mv_done (by kernel_rfl) ?_
            go_wp2
            go_roundw
            case rel => exact ⟨j + 1, by omega, by go_num, HB9.out.drew⟩
            case measure => simp [intOf]; omega
          · obtain rfl : j = m := by omega
            have HS9 := Lib.hid (HS8.out.below HB9.out)
            go_wp2
            go_roundw
            case rel => exact ⟨k + 1, by omega, by go_num, HS9.out⟩
            case measure => simp [intOf]; omega
    · obtain rfl : k = 4 := by omega
      have HB := Lib.hid HS.out.1
      go_wp2
      go_ret
      exact ⟨rfl, HB.out⟩

theorem levelPuts_walk (T : Array Value) (f : Nat → Int) (hT : IsRow 16 f T) (b : Int) (a : Option Addr) (n c : Nat) (g : Nat → Int) (w : World) (hS : Sl .i64 w a n c g) (hTab : Tab w) :
    Calls Tryd.prog 3 #[.agg T, .int .i64 b, .slice a n c] w fun e w' => e = .returned (.bool true) ∧ Below w.heap.size w w' := by
  by_cases hn : 100 < n
  · exact levelPuts_long T b a n c w hTab hn (Nat.le_trans hS.1 hS.2.1)
  · by_cases hb : 0 ≤ b ∧ b < 4
    · obtain ⟨i, rfl⟩ := Int.eq_ofNat_of_zero_le hb.1
      have hi4 : i < 4 := by omega
      by_cases hni : n = fs (i + 1) - fs i
      · exact levelPuts_some T f hT i a n c g w hTab hS (by omega) hi4 hni
      · exact levelPuts_other T f hT (i : Int) a n c g w hTab hS (by omega) (by omega) (by omega) (by rw [lo_nat i hi4, hi_nat i hi4]; exact hni)
    · exact levelPuts_none T f hT b a n c g w hTab hS (by omega) (by omega)
end Go.Proofs.YtlnmpgbknalagaaDoor.Lv
