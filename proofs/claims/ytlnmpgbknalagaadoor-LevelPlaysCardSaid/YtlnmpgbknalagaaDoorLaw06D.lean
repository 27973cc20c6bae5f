/- The statements' walks of layer 6, fourth part: LevelSigns, whole. -/
import Derived.Test.YtlnmpgbknalagaaDoorLaw06C
namespace Go.Proofs.YtlnmpgbknalagaaDoor.Lv
open Go.RowKit Go.Proofs.YtlnmpgbknalagaaDoor.Row

set_option maxRecDepth 100000 in
set_option maxHeartbeats 400000 in
theorem levelSigns_none (l : Int) (a : Option Addr) (c : Nat) (w : World) (hTab : Tab w) (hl : 0 ≤ l ∧ l ≤ 255) :
    Calls Tryd.prog 8 #[.int .u8 l, .slice a 0 c] w fun e w' => e = .returned (.bool true) ∧ Below w.heap.size w w' := by
  obtain ⟨l0, l1⟩ := hl
  have HT := Lib.hid hTab
  clear hTab
  go_enter Tryd.func8, Tryd.ntmps8
  go_wp2_with fail
  refine (awake_in _ w HT.out (Below.refl _ _)).mono ?_
  rintro e w1 ⟨rfl, hb1, ht1⟩
  have HB1 := Lib.hid hb1
  clear hb1 ht1
  go_wp2
  obtain ⟨r, hr⟩ : ∃ r, l % 20 = r := ⟨_, rfl⟩
  have r0 : 0 ≤ r := by omega
  have r1 : r ≤ 19 := by omega
  rw [hr]
  clear hr l0 l1
  have CF := Lib.hid (fun r w => fill_any r none 0 0 (fun _ => 0) w (OwnS.nil w 0 _).sl (by omega))
  refine wp_loop_rounds 1 ?_
  rw [rounds_succ]
  go_wp2_with fail
  refine (CF.out r w1).mono ?_
  rintro e w2 ⟨g2, U, rfl, hg2, hU, hA, hw2⟩
  have HB2 := Lib.hid (below_trans HB1.out hw2 HB1.out.size)
  clear hg2 hU hA hw2
  go_wp2_with fail
  refine (CF.out r w2).mono ?_
  rintro e w3 ⟨g3, U3, rfl, hg3, hU, hA, hw3⟩
  have HB3 := Lib.hid (below_trans HB2.out hw3 HB2.out.size)
  clear hg3 hU hA hw3
  go_wp2_with fail
  refine (CF.out (r + 1) w3).mono ?_
  rintro e w4 ⟨g4, U4, rfl, hg4, hU, hA, hw4⟩
  have HB4 := Lib.hid (below_trans HB3.out hw4 HB3.out.size)
  clear hg4 hU hA hw4
  go_wp2
  refine wp_loop_rounds 1 ?_
  rw [rounds_succ]
  go_wp2
  go_ret
  exact ⟨rfl, HB4.out⟩

theorem levelSigns_walk (l : Int) (a : Option Addr) (n c : Nat) (y : Nat → Int) (w : World) (w0 : (Lit.int .u8 l).wf = true) (hS : Sl .i8 w a n c y) (hy : ∀ i, i < n → (Lit.int .i8 (y i)).wf = true) (hTab : Tab w) :
    Calls Tryd.prog 8 #[.int .u8 l, .slice a n c] w fun e w' => e = .returned (.bool true) ∧ Below w.heap.size w w' := by
  by_cases h8 : 8 < n
  · exact levelSigns_long l a n c w hTab h8 (Nat.le_trans hS.1 hS.2.1)
  · by_cases h0 : n = 0
    · subst h0; exact levelSigns_none l a c w hTab (u8_bd w0)
    · obtain ⟨b, o, rfl, hc⟩ := hS.2.2 (by omega)
      exact levelSigns_some l b o n c y w hTab (u8_bd w0) (by omega) (by omega) hc fun i hi => i8_bd (hy i hi)
end Go.Proofs.YtlnmpgbknalagaaDoor.Lv
