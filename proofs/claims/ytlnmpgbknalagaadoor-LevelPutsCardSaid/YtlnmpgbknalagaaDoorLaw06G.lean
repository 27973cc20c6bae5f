/- The statements' walks of layer 6, seventh part: LevelPuts. -/
import Derived.Test.YtlnmpgbknalagaaDoorLaw06A
import Derived.Test.YtlnmpgbknalagaaDoorRowMvQ
namespace Go.Proofs.YtlnmpgbknalagaaDoor.Lv
open Go.RowKit Go.Proofs.YtlnmpgbknalagaaDoor.Row

theorem levelPuts_long (T : Array Value) (b : Int) (a : Option Addr) (n c : Nat) (w : World) (hTab : Tab w) (hn : 100 < n) (hm : n ≤ maxLen) :
    Calls Tryd.prog 3 #[.agg T, .int .i64 b, .slice a n c] w fun e w' => e = .returned (.bool true) ∧ Below w.heap.size w w' := by
  unfold maxLen at hm
  have B0 := (Below.refl w.heap.size w).alloc (Nat.le_refl _) (.cells T 22)
  have HT := Lib.hid (hTab.below B0 hTab.lt)
  have HB := Lib.hid B0
  clear hTab B0
  go_enter Tryd.func3, Tryd.ntmps3
  go_wp2_with fail
  refine (awake_yes _ HT.out).mono ?_
  rintro e w1 ⟨rfl, hb1⟩
  have HB1 := Lib.hid (below_trans HB.out hb1 HB.out.size)
  have HT1 := Lib.hid (HT.out.next hb1)
  clear hb1
  go_wp2_with fail
  refine (awake_yes _ HT1.out).mono ?_
  rintro e w2 ⟨rfl, hb2⟩
  have HB2 := Lib.hid (below_trans HB1.out hb2 HB1.out.size)
  clear hb2
  go_wp2
  go_ret
  exact ⟨rfl, HB2.out⟩

theorem size_no (b : Int) (h : ¬ (0 ≤ b ∧ b < 4)) : ((hi b : Nat) : Int) - (lo b : Nat) = 0 := by unfold hi lo; rw [if_neg h, if_neg h]; rfl
theorem putF_no (f g : Nat → Int) (b : Int) (n : Nat) (h : ¬ (0 ≤ b ∧ b < 4)) : putF f g b n = f := by
  unfold putF hi lo
  rw [if_neg h, if_neg h]
  by_cases e : n = 0 - 0
  · rw [if_pos e]
    obtain rfl : n = 0 := e
    exact over_none f g 0
  · rw [if_neg e]
theorem putF_other (f g : Nat → Int) (b : Int) (n : Nat) (h : n ≠ hi b - lo b) : putF f g b n = f := if_neg h

set_option maxRecDepth 100000 in
set_option maxHeartbeats 1000000 in
theorem levelPuts_none (T : Array Value) (f : Nat → Int) (hT : IsRow 16 f T) (b : Int) (a : Option Addr) (n c : Nat) (g : Nat → Int) (w : World) (hTab : Tab w) (hS : Sl .i64 w a n c g) (hn : n ≤ 100) (hb : b < 0 ∨ 3 < b) :
    Calls Tryd.prog 3 #[.agg T, .int .i64 b, .slice a n c] w fun e w' => e = .returned (.bool true) ∧ Below w.heap.size w w' := by
  obtain ⟨Z, hZ, hZ0, hz, hi16⟩ := zero_block
  have hI16 : (Tryd.prog.info? 22).map (·.size) = some T.size := by obtain ⟨_, _, _, _, h⟩ := zero_row (t := 22) (m := 16) (by kernel_rfl); exact h T hT.1
  have HT := Lib.hid hT
  have HZ := Lib.hid hZ
  have HI := Lib.hid hi16
  have HI16 := Lib.hid hI16
  have HSl := Lib.hid hS
  have A0 := Lib.hid (At.new w T 22)
  have B0 := Lib.hid ((Below.refl w.heap.size w).alloc (Nat.le_refl _) (.cells T 22))
  have HTab := Lib.hid hTab
  have HTab0 := Lib.hid (hTab.below B0.out hTab.lt)
  clear hT hZ hi16 hZ0 hI16 hTab hS
  have hb' : ¬ (0 ≤ b ∧ b < 4) := by omega
  have HPF := Lib.hid (putF_no f g b n hb')
  have HSZ := Lib.hid (size_no b hb')
  have e0 := no_guard
  rcases hb with hb | hb
  all_goals
    have hb2 : 0 ≤ b ∨ b < 0 := by omega
    clear hb' hb2
    go_enter Tryd.func3, Tryd.ntmps3
    go_wp2_with fail
    refine (awake_yes _ HTab0.out).mono ?_
    rintro e w1 ⟨rfl, hw1⟩
    have A1 := Lib.hid (A0.out.below hw1 A0.out.lt)
    have B1 := Lib.hid (below_trans B0.out hw1 B0.out.size)
    have HTab1 := Lib.hid (HTab.out.below B1.out HTab.out.lt)
    clear A0 B0 hw1 HTab0
    go_wp2_with (refine wpList_load_wanted (by rfl) 22 _ rfl w.heap.size rfl _ _ _ _ A1.out Tryd.underlying22 HI16.out ?_)
    refine (put_any T f g b a n c w1 HT.out HTab1.out (HSl.out.below B1.out)).mono ?_
    rintro e w2 ⟨X, rfl, hX, hw2⟩
    have HX := Lib.hid (HPF.out ▸ hX)
    have HS := Lib.hid (show PtS w T X w.heap.size w2.heap.size (w2.alloc (.cells X 25)) from ⟨(below_trans B1.out hw2 B1.out.size).alloc (Nat.le_trans B1.out.size hw2.size) _, Nat.le_trans B1.out.size hw2.size, by have h1 := A1.out.lt; have h2 := hw2.size; omega, (A1.out.below hw2 A1.out.lt).alloc _, At.new _ _ _⟩)
    clear hX hw2 A1 B1 HTab1
    have e1 := rows_eq HX.out HT.out (fun _ _ => rfl) Tryd.underlying25
    have HT3 := Lib.hid (HTab.out.below HS.out.1 HTab.out.lt)
    have CB := Lib.hid (fun w h => band_any T f b (lo b) (hi b) 0 w HT.out h rfl rfl (by have := HSZ.out; omega))
    go_wp2_with (first
      | (refine wpList_store_row rfl 25 _ _ rfl w2.heap.size X rfl rfl _ _ (heap_alloc_new _ _) (HI.out _ HX.out.1) (by rw [HX.out.1, HZ.out.1]) HX.out.2.1 ?_; rw [World.setRow_alloc_new])
      | (refine wpList_load_wanted (by rfl) 25 _ rfl w2.heap.size rfl _ _ _ _ HS.out.2.2.2.2 Tryd.underlying25 (HI.out _ HX.out.1) ?_)
      | (refine wpList_load_wanted (by rfl) 22 _ rfl w.heap.size rfl _ _ _ _ HS.out.2.2.2.1 Tryd.underlying22 HI16.out ?_)
      | (go_at_call 11; (with_reducible refine (size_as b 0 _ HT3.out HSZ.out).mono ?_); rintro e w5 ⟨rfl, hw5⟩; have HS5 := Lib.hid (HS.out.below hw5); have HT5 := Lib.hid (HTab.out.below HS5.out.1 HTab.out.lt); clear hw5)
      | (refine wpList_load_wanted (by rfl) 22 _ rfl w.heap.size rfl _ _ _ _ HS5.out.2.2.2.1 Tryd.underlying22 HI16.out ?_)
      | (go_at_call 12; (with_reducible refine (CB.out _ HT5.out).mono ?_); rintro e w6 ⟨gB, UB, rfl, hgB, hUB, hAB, hw6⟩; have HS6 := Lib.hid (HS5.out.below hw6); clear hgB hUB hAB hw6))
    go_ret
    exact ⟨rfl, HS6.out.1⟩

set_option maxRecDepth 100000 in
set_option maxHeartbeats 1000000 in
theorem levelPuts_other (T : Array Value) (f : Nat → Int) (hT : IsRow 16 f T) (b : Int) (a : Option Addr) (n c : Nat) (g : Nat → Int) (w : World) (hTab : Tab w) (hS : Sl .i64 w a n c g) (hn : n ≤ 100) (hb0 : 0 ≤ b) (hb3 : b ≤ 3) (hnb : n ≠ hi b - lo b) :
    Calls Tryd.prog 3 #[.agg T, .int .i64 b, .slice a n c] w fun e w' => e = .returned (.bool true) ∧ Below w.heap.size w w' := by
  obtain ⟨Z, hZ, hZ0, hz, hi16⟩ := zero_block
  have hI16 : (Tryd.prog.info? 22).map (·.size) = some T.size := by obtain ⟨_, _, _, _, h⟩ := zero_row (t := 22) (m := 16) (by kernel_rfl); exact h T hT.1
  have HT := Lib.hid hT
  have HZ := Lib.hid hZ
  have HI := Lib.hid hi16
  have HI16 := Lib.hid hI16
  have HSl := Lib.hid hS
  have A0 := Lib.hid (At.new w T 22)
  have B0 := Lib.hid ((Below.refl w.heap.size w).alloc (Nat.le_refl _) (.cells T 22))
  have HTab := Lib.hid hTab
  have HTab0 := Lib.hid (hTab.below B0.out hTab.lt)
  clear hT hZ hi16 hZ0 hI16 hTab hS
  have HPF := Lib.hid (putF_other f g b n hnb)
  have hbc := band_cases b
  obtain ⟨d, hd⟩ : ∃ d, hi b - lo b = d := ⟨_, rfl⟩
  have HSZ := Lib.hid (show ((hi b : Nat) : Int) - (lo b : Nat) = (d : Int) by omega)
  have hd16 : d ≤ 16 := by omega
  have e0 := no_guard
  have hne : (((n : Nat) : Int) != (d : Int)) = true := by rw [bne_iff_ne]; omega
  clear hbc hd hnb
  go_enter Tryd.func3, Tryd.ntmps3
  go_wp2_with fail
  refine (awake_yes _ HTab0.out).mono ?_
  rintro e w1 ⟨rfl, hw1⟩
  have A1 := Lib.hid (A0.out.below hw1 A0.out.lt)
  have B1 := Lib.hid (below_trans B0.out hw1 B0.out.size)
  have HTab1 := Lib.hid (HTab.out.below B1.out HTab.out.lt)
  clear A0 B0 hw1 HTab0
  go_wp2_with (refine wpList_load_wanted (by rfl) 22 _ rfl w.heap.size rfl _ _ _ _ A1.out Tryd.underlying22 HI16.out ?_)
  refine (put_any T f g b a n c w1 HT.out HTab1.out (HSl.out.below B1.out)).mono ?_
  rintro e w2 ⟨X, rfl, hX, hw2⟩
  have HX := Lib.hid (HPF.out ▸ hX)
  have HS := Lib.hid (show PtS w T X w.heap.size w2.heap.size (w2.alloc (.cells X 25)) from ⟨(below_trans B1.out hw2 B1.out.size).alloc (Nat.le_trans B1.out.size hw2.size) _, Nat.le_trans B1.out.size hw2.size, by have h1 := A1.out.lt; have h2 := hw2.size; omega, (A1.out.below hw2 A1.out.lt).alloc _, At.new _ _ _⟩)
  clear hX hw2 A1 B1 HTab1
  have e1 := rows_eq HX.out HT.out (fun _ _ => rfl) Tryd.underlying25
  have HT3 := Lib.hid (HTab.out.below HS.out.1 HTab.out.lt)
  go_wp2_with (first
    | (refine wpList_store_row rfl 25 _ _ rfl w2.heap.size X rfl rfl _ _ (heap_alloc_new _ _) (HI.out _ HX.out.1) (by rw [HX.out.1, HZ.out.1]) HX.out.2.1 ?_; rw [World.setRow_alloc_new])
    | (go_at_call 11; (with_reducible refine (size_as b (d : Int) _ HT3.out HSZ.out).mono ?_); rintro e w5 ⟨rfl, hw5⟩; have HS5 := Lib.hid (HS.out.below hw5); clear hw5)
    | (refine wpList_load_wanted (by rfl) 25 _ rfl w2.heap.size rfl _ _ _ _ HS5.out.2.2.2.2 Tryd.underlying25 (HI.out _ HX.out.1) ?_)
    | (refine wpList_load_wanted (by rfl) 22 _ rfl w.heap.size rfl _ _ _ _ HS5.out.2.2.2.1 Tryd.underlying22 HI16.out ?_))
  go_ret
  exact ⟨rfl, HS5.out.1⟩

end Go.Proofs.YtlnmpgbknalagaaDoor.Lv
