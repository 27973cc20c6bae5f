/- VectOrder: the walk. -/
import Derived.Test.YtkpbmhppibfpoaaLaw09A
set_option maxRecDepth 100000
set_option linter.unusedVariables false
namespace Go.Proofs.Ytkpbmhppibfpoaa.Ve
open Go.RowKit Go.Proofs.Ytkpbmhppibfpoaa.Row Go.Maps Go.WideMaps

theorem nat_mod (i c : Nat) (hc : 0 < c) : ∃ A : Nat, (i : Int) % (c : Int) = A ∧ A < c := ⟨i % c, by rw [Int.natCast_emod], Nat.mod_lt _ hc⟩

/-- What is known of both vectors. -/
theorem order_at {f g : Nat → Int} {m q A B x : Nat} (hf : sm f m = q) (hg : sm g m = q) (ef : num f m q = A) (eg : num g m q = B) (hx : x < m) (h : ∀ y, y < x → f y = g y) (hne : f x ≠ g x) : (decide ((A : Int) < B)) = decide (f x < g x) := by
  rcases Int.lt_or_gt_of_ne hne with c | c
  · have := num_less hf hg hx h c
    rw [decide_eq_true c, decide_eq_true (by omega)]
  · have := num_less hg hf hx (fun y hy => (h y hy).symm) c
    rw [decide_eq_false (by omega), decide_eq_false (by omega)]
theorem order_end {f g : Nat → Int} {m q A B : Nat} (ef : num f m q = A) (eg : num g m q = B) (h : ∀ y, y < m → f y = g y) : A = B := by
  rw [← ef, ← eg]
  exact pre_congr h

/-- What stands while the numbers are compared: both rows. -/
def OrS (W : World) (g1 g2 m : Nat) (f1 f2 : Nat → Int) (w' : World) : Prop := Below W.heap.size W w' ∧ (∀ i, i < m → w'.cell? ⟨g1, i, none⟩ = some (.int .i64 (f1 i))) ∧ ∀ i, i < m → w'.cell? ⟨g2, i, none⟩ = some (.int .i64 (f2 i))
theorem OrS.drewN {W w : World} {g1 g2 m : Nat} {f1 f2 : Nat → Int} (h : OrS W g1 g2 m f1 f2 w) (k : Nat) : OrS W g1 g2 m f1 f2 (w.drewN k) := ⟨below_drewN h.1 k, h.2⟩

set_option maxHeartbeats 400000 in
theorem vectOrder_walk (n k i j : Nat) (W : World) (hn : n ≤ 255) (hk : k ≤ 255) (hi : i ≤ 4294967295) (hj : j ≤ 4294967295) :
    Calls Try.prog 4 #[.int .u8 n, .int .u8 k, .int .u32 i, .int .u32 j] W fun e w' => e = .returned (.bool true) ∧ Below W.heap.size W w' := by
  obtain ⟨m, hm⟩ : ∃ m : Nat, (n : Int) % 9 = m := ⟨n % 9, by omega⟩
  obtain ⟨q, hq⟩ : ∃ q : Nat, (k : Int) % 9 = q := ⟨k % 9, by omega⟩
  have hm8 : m ≤ 8 := by omega
  have hq8 : q ≤ 8 := by omega
  have HC := Lib.hid (show cI m q = V m q from cI_nat hm8 hq8)
  have hc9 := V_le hm8 hq8
  obtain ⟨c, hc⟩ : ∃ c, V m q = c := ⟨_, rfl⟩
  have HV := Lib.hid hc
  rw [hc] at HC hc9
  clear hc
  by_cases c0 : c = 0
  · subst c0
    go_enter Try.func4, Try.ntmps4
    go_wp2_with fail
    refine (awake_yes _).mono ?_
    rintro e w1 ⟨rfl, h1⟩
    have HB1 := Lib.hid h1
    clear h1
    go_wp2_with fail
    refine (count_as _ _ _ _ HC.out).mono ?_
    rintro e w2 ⟨rfl, h2⟩
    go_wp2_with fail
    go_ret
    exact ⟨rfl, below_trans HB1.out h2 HB1.out.size⟩
  · obtain ⟨A, hA, hAc⟩ := nat_mod i c (by omega)
    obtain ⟨B, hB, hBc⟩ := nat_mod j c (by omega)
    have HAV := Lib.hid (show A < V m q by rw [HV.out]; exact hAc)
    have HBV := Lib.hid (show B < V m q by rw [HV.out]; exact hBc)
    have hcz : ((c : Int) == 0) = false := by rw [beq_eq_false_iff_ne]; omega
    go_enter Try.func4, Try.ntmps4
    go_wp2_with fail
    refine (awake_yes _).mono ?_
    rintro e w1 ⟨rfl, h1⟩
    have HB1 := Lib.hid h1
    clear h1
    go_wp2_with fail
    refine (count_as _ _ _ _ HC.out).mono ?_
    rintro e w2 ⟨rfl, h2⟩
    have HB2 := Lib.hid (below_trans HB1.out h2 HB1.out.size)
    clear h2 HB1
    go_wp2_with fail
    go_quiet (fail)
    have HB3 := Lib.hid (below_drewN HB2.out nq)
    obtain ⟨w3, hw3⟩ : ∃ w3, w2.drewN nq = w3 := ⟨_, rfl⟩
    rw [hw3] at HB3 ⊢
    clear HB2 hw3
    go_wp2_with fail
    simp only [hA, hB]
    clear hA hB hcz
    refine (vector_yes m q A _ hm8 hq8 HAV.out).mono ?_
    rintro e w4 ⟨f, f1, f2, g1, U1, rfl, hg1, hU1, hA1, h4⟩
    have HB4 := Lib.hid (below_trans HB3.out h4 HB3.out.size)
    have HF := Lib.hid (And.intro f1 f2)
    have HU := Lib.hid hU1
    have HA := Lib.hid hA1
    clear f1 f2 hg1 hU1 hA1 h4 HB3
    go_wp2_with fail
    refine (vector_yes m q B _ hm8 hq8 HBV.out).mono ?_
    rintro e w5 ⟨h, f1, f2, g2, U2, rfl, hg2, hU2, hA2, h5⟩
    have HO := Lib.hid (show OrS W g1 g2 m f h w5 from ⟨below_trans HB4.out h5 HB4.out.size, fun i hi => HU.out.cell (HA.out.below h5 HA.out.lt) i hi, fun i hi => hU2.cell hA2 i hi⟩)
    have HH := Lib.hid (And.intro f1 f2)
    clear f1 f2 hg2 hU2 hA2 h5 HB4 HU HA
    go_wp2_with fail
    go_loopw [18] (fun x w' => ∃ y : Nat, y ≤ m ∧ x = .int .i64 y ∧ Hid (∀ z, z < y → f z = h z) ∧ OrS W g1 g2 m f h w') (fun x _ => m - (intOf x).toNat)
    case atStart => exact ⟨0, Nat.zero_le _, rfl, Lib.hid fun z hz => absurd hz (Nat.not_lt_zero z), HO.out⟩
    case round =>
      obtain ⟨y, hy, rfl, HE, ho⟩ := hrel
      have HW := Lib.hid ho
      clear ho
      by_cases hlt : y < m
      · have c1 := HW.out.2.1 y hlt
        have c2 := HW.out.2.2 y hlt
        have HD := Lib.hid (fun e => order_at (A := A) (B := B) HF.out.1 HH.out.1 HF.out.2 HH.out.2 hlt HE.out e)
        obtain ⟨x1, hx1⟩ : ∃ x, f y = x := ⟨_, rfl⟩
        obtain ⟨x2, hx2⟩ : ∃ x, h y = x := ⟨_, rfl⟩
        have HX := Lib.hid (And.intro hx1 hx2)
        rw [hx1] at c1 HD
        rw [hx2] at c2 HD
        have k0 : (0 : Int) ≤ (y : Int) := by omega
        have k1 : (y : Int) < (m : Int) := by omega
        clear hx1 hx2
        by_cases ex : x1 = x2
        · subst ex
          have e0 : (x1 != x1) = false := by simp
          go_wp2_with fail
          go_quiet (fail)
          go_wp2_with fail
          go_roundw
          case rel =>
            refine ⟨y + 1, by omega, by go_num, Lib.hid fun z hz => ?_, HW.out.drewN _⟩
            by_cases e : z = y
            · rw [e, HX.out.1, HX.out.2]
            · exact HE.out z (by omega)
          case measure => simp [intOf]; omega
        · have e0 : (x1 != x2) = true := by simpa using ex
          have hd := HD.out ex
          have HW1 := fun k => Lib.hid (HW.out.drewN k)
          obtain ⟨r, hr⟩ : ∃ r, decide (x1 < x2) = r := ⟨_, rfl⟩
          have e1 : decide (A < B) = r := by rw [← hr, ← hd]; simp
          rw [hr] at hd
          have e2 : (r == r) = true := by simp
          go_wp2_with fail
          go_quiet (fail)
          go_wp2_with fail
          go_quiet (fail)
          go_wp2_with fail
          go_ret
          refine ⟨?_, below_drewN (below_drewN HW.out.1 _) _⟩
          refine ret_bool ?_
          first | rfl | simp [hr, hd, e1]
      · obtain rfl : y = m := by omega
        have e := order_end HF.out.2 HH.out.2 HE.out
        subst e
        go_wp2_with fail
        go_ret
        exact ⟨rfl, HW.out.1⟩

theorem vectOrder_any (a0 a1 a2 a3 : Int) (W : World) (w0 : (Lit.int .u8 a0).wf = true) (w1 : (Lit.int .u8 a1).wf = true) (w2 : (Lit.int .u32 a2).wf = true) (w3 : (Lit.int .u32 a3).wf = true) :
    Calls Try.prog 4 #[.int .u8 a0, .int .u8 a1, .int .u32 a2, .int .u32 a3] W fun e w' => e = .returned (.bool true) ∧ Below W.heap.size W w' := by
  obtain ⟨n, rfl, hn⟩ := u8_bd w0
  obtain ⟨k, rfl, hk⟩ := u8_bd w1
  obtain ⟨i, rfl, hi⟩ := u32_bd w2
  obtain ⟨j, rfl, hj⟩ := u32_bd w3
  exact vectOrder_walk n k i j W hn hk hi hj
end Go.Proofs.Ytkpbmhppibfpoaa.Ve
