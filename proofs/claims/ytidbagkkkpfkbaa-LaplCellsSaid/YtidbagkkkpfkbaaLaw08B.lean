/- LaplCells: the walk. -/
import Derived.Test.YtidbagkkkpfkbaaLpD
set_option maxRecDepth 100000
set_option linter.unusedVariables false
namespace Go.Proofs.Ytidbagkkkpfkbaa.Lp
open Go.RowKit Go.Proofs.Ytidbagkkkpfkbaa.Row Go.Proofs.Ytidbagkkkpfkbaa.Rg

/-- The widths of -24 and the numbers behind it, added. -/
def sumW : Nat → Nat
  | 0 => 0
  | m + 1 => sumW m + (cl ((m : Int) - 24)).w
theorem sumW_le {m : Nat} (h : m ≤ 49) : sumW m ≤ 32768 := by
  revert h; revert m; decide +kernel
theorem sumW_end : sumW 49 = 32768 := by decide +kernel
theorem wide_order (j : Fin 49) : (((j.val : Int) - 24 < 0) → ((cl ((j.val : Int) - 24)).w : Int) ≤ cW ((j.val : Int) - 24 + 1)) ∧ (0 ≤ (j.val : Int) - 24 → (j.val : Int) - 24 < 24 → cW ((j.val : Int) - 24 + 1) ≤ ((cl ((j.val : Int) - 24)).w : Int)) := by
  revert j; decide +kernel
theorem cW_bd (v : Int) : 0 ≤ cW v ∧ cW v ≤ 12568 := by
  unfold cW
  split
  · have := wd_le (nI (iV v)); show (0 : Int) ≤ (wd (nI (iV v)) : Int) ∧ (wd (nI (iV v)) : Int) ≤ 12568; omega
  · omega
theorem find_yes (p : Nat) (v : Int) (w : World) (h : p < 32768) (hv : fV (p : Int) = v) :
    Calls Try.prog 8 #[.int .i64 p] w fun e w' => e = .returned (.tuple #[.int .i64 v, .bool true]) ∧ Below w.heap.size w w' := by
  have := find_any (p : Int) w
  rw [hv, show fB (p : Int) = true by unfold fB; simp; omega] at this
  exact this
theorem find_cell {p : Nat} {v : Int} (h : p < 32768) (hv : fV (p : Int) = v) : (-24 ≤ v ∧ v ≤ 24) ∧ ∀ x, -24 ≤ x → x ≤ 24 → (x = v ∧ (cl x).s ≤ p ∧ p < (cl x).s + (cl x).w) ∨ (x ≠ v ∧ p < (cl x).s) ∨ (x ≠ v ∧ (cl x).s ≤ p ∧ (cl x).s + (cl x).w ≤ p) := by
  have hv2 : vI (fI p) = v := by
    rw [← hv]; unfold fV
    rw [if_pos (by omega), Int.toNat_natCast]
  obtain ⟨f1, f2, f3⟩ := fI_spec h
  have f4 := fI_ge h
  refine ⟨is_in f1 hv2.symm, fun x h1 h2 => ?_⟩
  by_cases e : x = v
  · have e2 : iV x = fI p := by rw [e, ← hv2, iV_vI]
    refine .inl ⟨e, ?_, ?_⟩
    · show sI (iV x) ≤ p; rw [e2]; exact f4
    · show p < sI (iV x) + wI (iV x); rw [e2]; exact f2
  · have e2 : iV x ≠ fI p := fun c => e (by rw [← vI_iV x, c, hv2])
    rcases Nat.lt_or_gt_of_ne e2 with c | c
    · have c1 := f3 (iV x) c
      refine .inr (.inr ⟨e, ?_, c1⟩)
      show sI (iV x) ≤ p
      omega
    · have c1 := sI_lt c
      refine .inr (.inl ⟨e, ?_⟩)
      show p < sI (iV x)
      omega

theorem cell_with (v s u : Int) (z : Bool) (w : World) (hs : cS v = s) (hu : cW v = u) (hz : inB v = z) :
    Calls Try.prog 9 #[.int .i64 v] w fun e w' => e = .returned (.tuple #[.int .i64 s, .int .i64 u, .bool z]) ∧ Below w.heap.size w w' := by
  subst hs hu hz
  exact cell_any v w
set_option maxHeartbeats 4000000 in
theorem laplCells_walk (n : Nat) (W : World) (hn : n ≤ 65535) :
    Calls Try.prog 3 #[.int .u16 n] W fun e w' => e = .returned (.bool true) ∧ Below W.heap.size W w' := by
  obtain ⟨p, hp⟩ : ∃ p : Nat, n % 32768 = p := ⟨_, rfl⟩
  have hpl : p < 32768 := by omega
  obtain ⟨v, hv⟩ : ∃ v, fV (p : Int) = v := ⟨_, rfl⟩
  have HP := Lib.hid (show (n : Int) % 32768 = (p : Int) by omega)
  have HF := Lib.hid hv
  obtain ⟨⟨v1, v2⟩, hcell⟩ := find_cell hpl hv
  have HCELL := Lib.hid hcell
  clear hp hv hcell
  go_enter Try.func3, Try.ntmps3
  go_wp2_with fail
  refine (awake_yes _).mono ?_
  rintro e w1 ⟨rfl, h1⟩
  have B1 := Lib.hid h1
  clear h1
  go_wp2_with fail
  rw [HP.out]
  refine (find_yes p v _ hpl HF.out).mono ?_
  rintro e w2 ⟨rfl, h2⟩
  have B2 := Lib.hid (below_trans B1.out h2 B1.out.size)
  clear h2 B1 HF
  go_wp2
  go_loopw [6, 7, 8] (fun a s x wr => ∃ m c : Nat, m ≤ 49 ∧ x = .int .i64 ((m : Int) - 24) ∧ a = .int .i64 c ∧ s = .int .i64 (sumW m) ∧ c ≤ 1 ∧ Hid (c = if v < (m : Int) - 24 then 1 else 0) ∧ Hid (Below W.heap.size W wr)) (fun _ _ x _ => (100 - intOf x).toNat)
  case atStart => exact ⟨0, 0, by omega, rfl, rfl, rfl, by omega, Lib.hid (by rw [if_neg (by omega)]), B2⟩
  case round =>
    obtain ⟨m, c, hm, rfl, rfl, rfl, hc, HC, BR⟩ := hrel
    by_cases hlt : m < 49
    · obtain ⟨x, hx⟩ : ∃ x : Int, (m : Int) - 24 = x := ⟨_, rfl⟩
      have x1 : -24 ≤ x := by omega
      have x2 : x ≤ 24 := by omega
      obtain ⟨b1, b2, b3⟩ := cl_bd (v := x) ⟨x1, x2⟩
      have hcs := HCELL.out x x1 x2
      obtain ⟨q1, q2⟩ := wide_order ⟨m, hlt⟩
      dsimp only at q1 q2
      obtain ⟨S, hS⟩ : ∃ S, sumW m = S := ⟨_, rfl⟩
      have hS2 : sumW (m + 1) = S + (cl x).w := by show sumW m + (cl ((m : Int) - 24)).w = _; rw [hS, hx]
      have hSl : S + (cl x).w ≤ 32768 := by rw [← hS2]; exact sumW_le (by omega)
      rw [hx] at q1 q2
      rw [hx, hS]
      have HX := Lib.hid hx
      obtain ⟨A, hA⟩ : ∃ A, (cl x).s = A := ⟨_, rfl⟩
      obtain ⟨u, hu⟩ : ∃ u, (cl x).w = u := ⟨_, rfl⟩
      rw [hu] at b1 b2 b3 hcs q1 q2 hS2 hSl
      rw [hA] at b3 hcs
      have HA := Lib.hid hA
      have HU := Lib.hid hu
      have HS2 := Lib.hid hS2
      obtain ⟨yb1, yb2⟩ := cW_bd (x + 1)
      obtain ⟨t, ht⟩ : ∃ t, cS (x + 1) = t := ⟨_, rfl⟩
      obtain ⟨y, hy⟩ : ∃ y, cW (x + 1) = y := ⟨_, rfl⟩
      obtain ⟨z, hz⟩ : ∃ z, inB (x + 1) = z := ⟨_, rfl⟩
      rw [hy] at q1 q2 yb1 yb2
      have HCELL2 := Lib.hid (And.intro ht (And.intro hy hz))
      have HORD := Lib.hid (show (x < 0 ∧ (u : Int) ≤ y) ∨ (0 ≤ x ∧ x < 24 ∧ y ≤ (u : Int)) ∨ (24 ≤ x) from by omega)
      have HYB := Lib.hid (And.intro yb1 yb2)
      clear hx hS hS2 hA hu ht hy hz q1 q2 yb1 yb2
      go_wp2_with fail
      refine (cell_yes x A u _ ⟨x1, x2⟩ (congrArg Nat.cast HA.out) (congrArg Nat.cast HU.out)).mono ?_
      rintro e w4 ⟨rfl, h4⟩
      have B4 := Lib.hid (below_trans BR.out h4 BR.out.size)
      clear h4
      rcases hcs with ⟨k1, k2, k3⟩ | ⟨k1, k2⟩ | ⟨k1, k2, k3⟩
      · have hc0 : c = 0 := by
          have e1 := HC.out
          have e2 := HX.out
          rw [if_neg (by omega)] at e1
          exact e1
        subst hc0
        subst k1
        have hne : (x != x) = false := by simp
        have HE := Lib.hid (show 0 + 1 = if x < ((m + 1 : Nat) : Int) - 24 then 1 else 0 from by
          have e1 := HC.out
          have e2 := HX.out
          rw [if_pos (by omega)])
        clear HCELL
        go_wp2_with fail
        with_reducible refine (cell_with (x + 1) t y z _ HCELL2.out.1 HCELL2.out.2.1 HCELL2.out.2.2).mono ?_
        rintro e w5 ⟨rfl, h5⟩
        have B5 := Lib.hid (below_trans B4.out h5 B4.out.size)
        clear h5 B4
        obtain ⟨yb1, yb2⟩ := HYB.out
        rcases HORD.out with ⟨o1, o2⟩ | ⟨o1, o2, o3⟩ | o1
        all_goals
          go_wp2
          go_roundw
          case rel => exact ⟨m + 1, 0 + 1, by omega, by rw [← HX.out]; go_num, by go_num, by rw [HS2.out]; go_num, by omega, HE, B5⟩
          case measure => simp [intOf]; omega
      · have kk := k1
        have HE := Lib.hid (show c = if v < ((m + 1 : Nat) : Int) - 24 then 1 else 0 from by
          have e1 := HC.out
          have e2 := HX.out
          rw [e1]; split <;> split <;> omega)
        clear HCELL k1 kk
        go_wp2_with fail
        with_reducible refine (cell_with (x + 1) t y z _ HCELL2.out.1 HCELL2.out.2.1 HCELL2.out.2.2).mono ?_
        rintro e w5 ⟨rfl, h5⟩
        have B5 := Lib.hid (below_trans B4.out h5 B4.out.size)
        clear h5 B4
        obtain ⟨yb1, yb2⟩ := HYB.out
        rcases HORD.out with ⟨o1, o2⟩ | ⟨o1, o2, o3⟩ | o1
        all_goals
          go_wp2
          go_roundw
          case rel => exact ⟨m + 1, c, by omega, by rw [← HX.out]; go_num, by go_num, by rw [HS2.out]; go_num, by omega, HE, B5⟩
          case measure => simp [intOf]; omega
      · have kk := k1
        have HE := Lib.hid (show c = if v < ((m + 1 : Nat) : Int) - 24 then 1 else 0 from by
          have e1 := HC.out
          have e2 := HX.out
          rw [e1]; split <;> split <;> omega)
        clear HCELL k1 kk
        go_wp2_with fail
        with_reducible refine (cell_with (x + 1) t y z _ HCELL2.out.1 HCELL2.out.2.1 HCELL2.out.2.2).mono ?_
        rintro e w5 ⟨rfl, h5⟩
        have B5 := Lib.hid (below_trans B4.out h5 B4.out.size)
        clear h5 B4
        obtain ⟨yb1, yb2⟩ := HYB.out
        rcases HORD.out with ⟨o1, o2⟩ | ⟨o1, o2, o3⟩ | o1
        all_goals
          go_wp2
          go_roundw
          case rel => exact ⟨m + 1, c, by omega, by rw [← HX.out]; go_num, by go_num, by rw [HS2.out]; go_num, by omega, HE, B5⟩
          case measure => simp [intOf]; omega
    · obtain rfl : m = 49 := by omega
      have hc1 : c = 1 := by
        have e1 := HC.out
        rw [if_pos (by omega)] at e1
        exact e1
      subst hc1
      rw [sumW_end]
      go_wp2
      go_ret
      exact ⟨rfl, BR.out⟩

theorem laplCells_any (a : Int) (W : World) (h : (Lit.int .u16 a).wf = true) :
    Calls Try.prog 3 #[.int .u16 a] W fun e w' => e = .returned (.bool true) ∧ Below W.heap.size W w' := by
  have hb : 0 ≤ a ∧ a ≤ 65535 := by simpa [Lit.wf, IntKind.min, IntKind.max, IntKind.bits, IntKind.signed] using h
  obtain ⟨n, rfl⟩ : ∃ n : Nat, a = n := ⟨a.toNat, by omega⟩
  exact laplCells_walk n W (by omega)
end Go.Proofs.Ytidbagkkkpfkbaa.Lp
