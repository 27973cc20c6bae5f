/- LaplSides: the walk. -/
import Derived.Test.YtidbagkkkpfkbaaLpD
set_option maxRecDepth 100000
set_option linter.unusedVariables false
namespace Go.Proofs.Ytidbagkkkpfkbaa.Lp
open Go.RowKit Go.Proofs.Ytidbagkkkpfkbaa.Row Go.Proofs.Ytidbagkkkpfkbaa.Rg

theorem cost_mono {u y : Nat} (h : u ≤ y) (h1 : 1 ≤ u) : cost y ≤ cost u := by
  obtain ⟨_, a2, _⟩ := cost_spec h1
  obtain ⟨_, _, b3⟩ := cost_spec (w := y) (by omega)
  rcases Nat.lt_or_ge (cost u) (cost y) with c | c
  · have := b3 _ c; omega
  · exact c
theorem wd_anti {k : Nat} (h : k ≤ 24) (h1 : 1 ≤ k) : wd k ≤ wd (k - 1) := by
  revert h1; revert h; revert k; decide +kernel
theorem sides {k : Int} (h1 : 1 ≤ k) (h2 : k ≤ 24) : (cl (-k)).s = (cl k).s + (cl k).w ∧ (cl (-k)).w = (cl k).w ∧ (cl k).w ≤ (cl (k - 1)).w ∧ cC (-k) = cC k ∧ cC (k - 1) ≤ cC k := by
  have e1 : iV (-k) = iV k + 1 := by unfold iV; rw [if_neg (by omega), if_pos (by omega)]; omega
  have e2 : (cl (-k)).w = (cl k).w := by
    show wd (nI (iV (-k))) = wd (nI (iV k))
    rw [nI_iV, nI_iV, Int.natAbs_neg]
  have e3 : (cl k).w ≤ (cl (k - 1)).w := by
    show wd (nI (iV k)) ≤ wd (nI (iV (k - 1)))
    rw [nI_iV, nI_iV]
    have := wd_anti (k := k.natAbs) (by omega) (by omega)
    rwa [show (k - 1).natAbs = k.natAbs - 1 by omega]
  refine ⟨?_, e2, e3, by unfold cC; rw [e2], cost_mono e3 (by have := (cl_bd (v := k) (by omega)).1; omega)⟩
  show sI (iV (-k)) = sI (iV k) + wI (iV k)
  rw [e1]
  rfl

set_option maxHeartbeats 1000000 in
theorem laplSides_walk (n : Nat) (W : World) (hn : n ≤ 255) :
    Calls Try.prog 5 #[.int .u8 n] W fun e w' => e = .returned (.bool true) ∧ Below W.heap.size W w' := by
  obtain ⟨k, hk⟩ : ∃ k : Int, 1 + (n : Int) % 24 = k := ⟨_, rfl⟩
  have hk1 : 1 ≤ k := by omega
  have hk2 : k ≤ 24 := by omega
  obtain ⟨g1, g2, g3, g4, g5⟩ := sides hk1 hk2
  obtain ⟨b1, b2, b3⟩ := cl_bd (v := k) (by omega)
  obtain ⟨s, hs⟩ : ∃ s, (cl k).s = s := ⟨_, rfl⟩
  obtain ⟨u, hu⟩ : ∃ u, (cl k).w = u := ⟨_, rfl⟩
  obtain ⟨t, ht⟩ : ∃ t, (cl (k - 1)).s = t := ⟨_, rfl⟩
  obtain ⟨y, hy⟩ : ∃ y, (cl (k - 1)).w = y := ⟨_, rfl⟩
  obtain ⟨c, hc⟩ : ∃ c, cC k = c := ⟨_, rfl⟩
  obtain ⟨d, hd⟩ : ∃ d, cC (k - 1) = d := ⟨_, rfl⟩
  rw [hs, hu] at g1
  rw [hu] at g2 g3 b1 b2 b3
  rw [hs] at b3
  rw [hy] at g3
  rw [hc] at g4 g5
  rw [hd] at g5
  have HK := Lib.hid hk
  have HS := Lib.hid hs
  have HU := Lib.hid hu
  have HT := Lib.hid ht
  have HY := Lib.hid hy
  have HC := Lib.hid hc
  have HD := Lib.hid hd
  have G1 := Lib.hid g1
  have G2 := Lib.hid g2
  have G4 := Lib.hid g4
  clear hk hs hu ht hy hc hd g1 g2 g4
  go_enter Try.func5, Try.ntmps5
  go_wp2_with fail
  refine (awake_yes _).mono ?_
  rintro e w1 ⟨rfl, h1⟩
  have B1 := Lib.hid h1
  clear h1
  go_wp2_with fail
  rw [HK.out]
  refine (cell_yes k s u _ (by omega) (congrArg Nat.cast HS.out) (congrArg Nat.cast HU.out)).mono ?_
  rintro e w2 ⟨rfl, h2⟩
  have B2 := Lib.hid (below_trans B1.out h2 B1.out.size)
  clear h2 B1
  go_wp2_with fail
  refine (cell_yes (-k) (s + u : Int) u _ (by omega) (by rw [G1.out]; omega) (congrArg Nat.cast G2.out)).mono ?_
  rintro e w3 ⟨rfl, h3⟩
  have B3 := Lib.hid (below_trans B2.out h3 B2.out.size)
  clear h3 B2
  go_wp2_with fail
  refine (cell_yes (k - 1) t y _ (by omega) (congrArg Nat.cast HT.out) (congrArg Nat.cast HY.out)).mono ?_
  rintro e w4 ⟨rfl, h4⟩
  have B4 := Lib.hid (below_trans B3.out h4 B3.out.size)
  clear h4 B3
  have q1 : ((u : Int) == u) = true := by simp
  have q2 : (((s : Int) + u) == (s : Int) + u) = true := by simp
  have q3 : decide ((u : Int) ≤ y) = true := by simp; omega
  have q4 : ((c : Int) == c) = true := by simp
  have q5 : decide ((d : Int) ≤ c) = true := by simp; omega
  go_wp2_with fail
  refine (cost_yes k c _ (by omega) (congrArg Nat.cast HC.out)).mono ?_
  rintro e w5 ⟨rfl, h5⟩
  have B5 := Lib.hid (below_trans B4.out h5 B4.out.size)
  clear h5 B4
  go_wp2_with fail
  refine (cost_yes (-k) c _ (by omega) (congrArg Nat.cast G4.out)).mono ?_
  rintro e w6 ⟨rfl, h6⟩
  have B6 := Lib.hid (below_trans B5.out h6 B5.out.size)
  clear h6 B5
  go_wp2_with fail
  refine (cost_yes k c _ (by omega) (congrArg Nat.cast HC.out)).mono ?_
  rintro e w7 ⟨rfl, h7⟩
  have B7 := Lib.hid (below_trans B6.out h7 B6.out.size)
  clear h7 B6
  go_wp2_with fail
  refine (cost_yes (k - 1) d _ (by omega) (congrArg Nat.cast HD.out)).mono ?_
  rintro e w8 ⟨rfl, h8⟩
  have B8 := Lib.hid (below_trans B7.out h8 B7.out.size)
  clear h8 B7
  go_wp2
  go_ret
  exact ⟨rfl, B8.out⟩

theorem laplSides_any (a : Int) (W : World) (h : (Lit.int .u8 a).wf = true) :
    Calls Try.prog 5 #[.int .u8 a] W fun e w' => e = .returned (.bool true) ∧ Below W.heap.size W w' := by
  have hb : 0 ≤ a ∧ a ≤ 255 := by simpa [Lit.wf, IntKind.min, IntKind.max, IntKind.bits, IntKind.signed] using h
  obtain ⟨n, rfl⟩ : ∃ n : Nat, a = n := ⟨a.toNat, by omega⟩
  exact laplSides_walk n W (by omega)
end Go.Proofs.Ytidbagkkkpfkbaa.Lp
