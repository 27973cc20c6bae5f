/- VectBack: the walk. -/
import Derived.Test.YtkpbmhppibfpoaaLaw09C
set_option maxRecDepth 100000
set_option linter.unusedVariables false
namespace Go.Proofs.Ytkpbmhppibfpoaa.Ve
open Go.RowKit Go.Proofs.Ytkpbmhppibfpoaa.Row Go.Maps Go.WideMaps

theorem V_pos {m q : Nat} (h : V m q = 0) : m = 0 ∧ 1 ≤ q := by
  match m, q with
  | 0, 0 => rw [V_one] at h; omega
  | 0, q + 1 => omega
  | m + 1, 0 => rw [V_one] at h; omega
  | m + 1, q + 1 =>
    have h1 : V m (q + 1) + 2 * S (V m) (q + 1) = 0 := h
    have h2 := S_mono (V m) (show 0 + 1 ≤ q + 1 by omega)
    have h3 : S (V m) (0 + 1) = 0 + V m 0 := rfl
    rw [V_one] at h3
    omega
theorem pI_of {f : Nat → Int} {n k : Nat} (h : n ≤ 8) (hk : k ≤ 8) (e : sm f n = k) : pI f n = k := by
  unfold pI
  rw [if_pos h]; omega
theorem fits_of {f : Nat → Int} {n k : Nat} (hk : k ≤ 8) (e : sm f n = k) : ∀ i, i < n → -9223372036854775808 ≤ f i ∧ f i ≤ 9223372036854775807 := fun i hi => by
  have := sm_mono f (show i + 1 ≤ n by omega)
  rw [sm_next] at this
  omega

theorem vectBack_many (a : Option Addr) (n c : Nat) (i1 i2 i3 : Int) (W : World) (h : 40 < n) :
    Calls Try.prog 3 #[.slice a n c, .int .u8 i1, .int .u8 i2, .int .u32 i3] W fun e w' => e = .returned (.bool true) ∧ Below W.heap.size W w' := by
  go_enter Try.func3, Try.ntmps3
  go_wp2_with fail
  refine (awake_yes _).mono ?_
  rintro e w1 ⟨rfl, h1⟩
  have HB1 := Lib.hid h1
  clear h1
  go_wp2_with fail
  refine (awake_yes _).mono ?_
  rintro e w2 ⟨rfl, h2⟩
  go_wp2_with fail
  go_ret
  exact ⟨rfl, below_trans HB1.out h2 HB1.out.size⟩

set_option maxHeartbeats 800000 in
theorem vectBack_not_zero (a : Option Addr) (n c : Nat) (f : Nat → Int) (i1 i2 i3 m q A C : Nat) (W : World) (hS : Sl .i64 W a n c f) (hf : ∀ i, i < n → -9223372036854775808 ≤ f i ∧ f i ≤ 9223372036854775807) (b1 : i1 ≤ 255) (b2 : i2 ≤ 255) (b3 : i3 ≤ 4294967295) (hm : (i1 : Int) % 9 = m) (hq : (i2 : Int) % 9 = q) (hC : V m q = C) (hn : n ≤ 40) (hp : pI f n = 9) (hz : C = 0) :
    Calls Try.prog 3 #[.slice a n c, .int .u8 i1, .int .u8 i2, .int .u32 i3] W fun e w' => e = .returned (.bool true) ∧ Below W.heap.size W w' := by
  have hm8 : m ≤ 8 := by omega
  have hq8 : q ≤ 8 := by omega
  have hn40 : n ≤ 40 := by omega
  have HC := Lib.hid (show cI m q = C by rw [cI_nat hm8 hq8, hC])
  have hc9 := V_le hm8 hq8
  rw [hC] at hc9
  have HS := Lib.hid hS
  have HF := Lib.hid hf
  obtain ⟨hm0, hq0⟩ := V_pos (hC.trans hz)
  subst hz
  subst hm0
  have hm' : (i1 : Int) % 9 = 0 := by omega
  have HC0 := Lib.hid (show cI 0 q = 0 from cI_none (by omega))
  clear hm
  have eq0 : (0 : Int) < (q : Int) := by omega
  have HP := Lib.hid hp
  clear hp
  clear hS hf hC
  go_enter Try.func3, Try.ntmps3
  go_wp2_with fail
  refine (awake_yes _).mono ?_
  rintro e w1 ⟨rfl, h1⟩
  have HB1 := Lib.hid h1
  have HS1 := Lib.hid (HS.out.below h1)
  clear h1 HS
  go_wp2_with fail
  refine (number_no a n c f w1 HS1.out HF.out HP.out).mono ?_
  rintro e w2 ⟨rfl, rfl⟩
  go_wp2_with fail
  have HQ := Lib.hid (pulses_any a n c f w1 HS1.out HF.out)
  rw [HP.out] at HQ
  refine HQ.out.mono ?_
  rintro e w2 ⟨rfl, rfl⟩
  have HBz := Lib.hid HB1.out
  clear HQ HS1 HB1 HF HP
  obtain ⟨wz, hwz⟩ : ∃ wz, w1 = wz := ⟨_, rfl⟩
  rw [hwz] at HBz ⊢
  clear hwz
  go_wp2_with fail
  refine (count_as _ _ _ _ HC0.out).mono ?_
  rintro e wy ⟨rfl, h6⟩
  go_wp2_with fail
  go_ret
  exact ⟨ret_bool (decide_eq_true (show 0 < q by omega)), below_trans HBz.out h6 HBz.out.size⟩

set_option maxHeartbeats 800000 in
theorem vectBack_not_pos (a : Option Addr) (n c : Nat) (f : Nat → Int) (i1 i2 i3 m q A C : Nat) (W : World) (hS : Sl .i64 W a n c f) (hf : ∀ i, i < n → -9223372036854775808 ≤ f i ∧ f i ≤ 9223372036854775807) (b1 : i1 ≤ 255) (b2 : i2 ≤ 255) (b3 : i3 ≤ 4294967295) (hm : (i1 : Int) % 9 = m) (hq : (i2 : Int) % 9 = q) (hC : V m q = C) (hn : n ≤ 40) (hp : pI f n = 9) (hmA : (i3 : Int) % (C : Int) = A) (hAC : A < C) :
    Calls Try.prog 3 #[.slice a n c, .int .u8 i1, .int .u8 i2, .int .u32 i3] W fun e w' => e = .returned (.bool true) ∧ Below W.heap.size W w' := by
  have hm8 : m ≤ 8 := by omega
  have hq8 : q ≤ 8 := by omega
  have hn40 : n ≤ 40 := by omega
  have HC := Lib.hid (show cI m q = C by rw [cI_nat hm8 hq8, hC])
  have hc9 := V_le hm8 hq8
  rw [hC] at hc9
  have HS := Lib.hid hS
  have HF := Lib.hid hf
  have HA := Lib.hid (show A < V m q by rw [hC]; exact hAC)
  have hcz : ((C : Int) == 0) = false := by rw [beq_eq_false_iff_ne]; omega
  have hcne : (C : Int) ≠ 0 := by omega
  have HP := Lib.hid hp
  clear hp
  clear hS hf hC
  go_enter Try.func3, Try.ntmps3
  go_wp2_with fail
  refine (awake_yes _).mono ?_
  rintro e w1 ⟨rfl, h1⟩
  have HB1 := Lib.hid h1
  have HS1 := Lib.hid (HS.out.below h1)
  clear h1 HS
  go_wp2_with fail
  refine (number_no a n c f w1 HS1.out HF.out HP.out).mono ?_
  rintro e w2 ⟨rfl, rfl⟩
  go_wp2_with fail
  have HQ := Lib.hid (pulses_any a n c f w1 HS1.out HF.out)
  rw [HP.out] at HQ
  refine HQ.out.mono ?_
  rintro e w2 ⟨rfl, rfl⟩
  have HBz := Lib.hid HB1.out
  clear HQ HS1 HB1 HF HP
  obtain ⟨wz, hwz⟩ : ∃ wz, w1 = wz := ⟨_, rfl⟩
  rw [hwz] at HBz ⊢
  clear hwz
  go_wp2_with fail
  refine (count_as _ _ _ _ HC.out).mono ?_
  rintro e wy ⟨rfl, h6⟩
  have HBy := Lib.hid (below_trans HBz.out h6 HBz.out.size)
  clear h6 HBz
  go_wp2_with fail
  simp only [hmA]
  refine (vector_yes m q A _ hm8 hq8 HA.out).mono ?_
  rintro e wx ⟨y, f1, f2, g, U, rfl, hg, hU, hAt, h7⟩
  have HBx := Lib.hid (below_trans HBy.out h7 HBy.out.size)
  have HN := Lib.hid (number_yes (some ⟨g, 0, none⟩) m m q y wx (Sl.of_isRow hU hAt (by unfold maxLen; omega)) (fits_of hq8 f1) (pI_of hm8 hq8 f1) hq8)
  rw [f2] at HN
  have HR := Lib.hid hU
  have HT := Lib.hid hAt
  have HY := Lib.hid f1
  clear f1 f2 hg hU hAt h7 HBy
  go_wp2_with fail
  refine HN.out.mono ?_
  rintro e wv ⟨rfl, h8⟩
  have HBv := Lib.hid (below_trans HBx.out h8 HBx.out.size)
  have HPv := Lib.hid (pulses_any (some ⟨g, 0, none⟩) m m y wv (Sl.of_isRow HR.out (HT.out.below h8 HT.out.lt) (by unfold maxLen; omega)) (fits_of hq8 HY.out))
  rw [pI_of hm8 hq8 HY.out] at HPv
  clear h8 HBx HR HT HY HN
  go_wp2_with fail
  refine HPv.out.mono ?_
  rintro e wu ⟨rfl, rfl⟩
  go_wp2_with fail
  go_ret
  exact ⟨rfl, HBv.out⟩

set_option maxHeartbeats 800000 in
theorem vectBack_yes_zero (a : Option Addr) (n c : Nat) (f : Nat → Int) (i1 i2 i3 m q A C : Nat) (W : World) (hS : Sl .i64 W a n c f) (hf : ∀ i, i < n → -9223372036854775808 ≤ f i ∧ f i ≤ 9223372036854775807) (b1 : i1 ≤ 255) (b2 : i2 ≤ 255) (b3 : i3 ≤ 4294967295) (hm : (i1 : Int) % 9 = m) (hq : (i2 : Int) % 9 = q) (hC : V m q = C) (k : Nat) (hn8 : n ≤ 8) (hk8 : k ≤ 8) (hk : sm f n = k) (hz : C = 0) :
    Calls Try.prog 3 #[.slice a n c, .int .u8 i1, .int .u8 i2, .int .u32 i3] W fun e w' => e = .returned (.bool true) ∧ Below W.heap.size W w' := by
  have hm8 : m ≤ 8 := by omega
  have hq8 : q ≤ 8 := by omega
  have hn40 : n ≤ 40 := by omega
  have HC := Lib.hid (show cI m q = C by rw [cI_nat hm8 hq8, hC])
  have hc9 := V_le hm8 hq8
  rw [hC] at hc9
  have HS := Lib.hid hS
  have HF := Lib.hid hf
  obtain ⟨hm0, hq0⟩ := V_pos (hC.trans hz)
  subst hz
  subst hm0
  have hm' : (i1 : Int) % 9 = 0 := by omega
  have HC0 := Lib.hid (show cI 0 q = 0 from cI_none (by omega))
  clear hm
  have eq0 : (0 : Int) < (q : Int) := by omega
  have hk8i : (k : Int) ≤ 8 := by omega
  have HK := Lib.hid hk
  have HP := Lib.hid (pI_of hn8 hk8 hk)
  clear hk
  clear hS hf hC
  go_enter Try.func3, Try.ntmps3
  go_wp2_with fail
  refine (awake_yes _).mono ?_
  rintro e w1 ⟨rfl, h1⟩
  have HB1 := Lib.hid h1
  have HS1 := Lib.hid (HS.out.below h1)
  clear h1 HS
  go_wp2_with fail
  refine (number_yes a n c k f w1 HS1.out HF.out HP.out hk8).mono ?_
  rintro e w2 ⟨rfl, h2⟩
  have HB2 := Lib.hid (below_trans HB1.out h2 HB1.out.size)
  have HS2 := Lib.hid (HS1.out.below h2)
  clear h2 HB1 HS1
  have HX := Lib.hid (num_lt HK.out)
  have HV := Lib.hid (show cI n k = V n k from cI_nat hn8 hk8)
  have hv9 := V_le hn8 hk8
  obtain ⟨X, hX⟩ : ∃ X, num f n k = X := ⟨_, rfl⟩
  have HXE := Lib.hid hX
  obtain ⟨v, hv⟩ : ∃ v, V n k = v := ⟨_, rfl⟩
  have HVE := Lib.hid hv
  rw [hX, hv] at HX
  rw [hv] at HV hv9
  have hx9 : X < v := HX.out
  rw [hX]
  clear hX hv
  go_wp2_with fail
  have HQ := Lib.hid (pulses_any a n c f w2 HS2.out HF.out)
  rw [HP.out] at HQ
  refine HQ.out.mono ?_
  rintro e w3 ⟨rfl, rfl⟩
  clear HQ
  go_wp2_with fail
  refine (vector_yes n k X _ hn8 hk8 (by rw [HVE.out]; exact hx9)).mono ?_
  rintro e w3 ⟨h, f1, f2, g, U, rfl, hg, hU, hA, h3⟩
  have HB3 := Lib.hid (below_trans HB2.out h3 HB2.out.size)
  have HSS := Lib.hid (same_yes (some ⟨g, 0, none⟩) a n n c h f w3 (Sl.of_isRow hU hA (by unfold maxLen; omega)) (HS2.out.below h3) (num_inj f1 HK.out (by rw [f2, HXE.out])))
  clear f1 f2 hg hU hA h3 HB2 HS2 HF
  have x0 : 0 ≤ (X : Int) := by omega
  go_wp2_with fail
  refine HSS.out.mono ?_
  rintro e w4 ⟨rfl, h4⟩
  have HB4 := Lib.hid (below_trans HB3.out h4 HB3.out.size)
  clear h4 HB3 HSS
  go_wp2_with fail
  refine (count_as _ _ _ _ HV.out).mono ?_
  rintro e wz ⟨rfl, h5⟩
  have HBz := Lib.hid (below_trans HB4.out h5 HB4.out.size)
  clear h5 HB4
  go_wp2_with fail
  refine (count_as _ _ _ _ HC0.out).mono ?_
  rintro e wy ⟨rfl, h6⟩
  go_wp2_with fail
  go_ret
  exact ⟨ret_bool (decide_eq_true (show 0 < q by omega)), below_trans HBz.out h6 HBz.out.size⟩

set_option maxHeartbeats 800000 in
theorem vectBack_yes_pos (a : Option Addr) (n c : Nat) (f : Nat → Int) (i1 i2 i3 m q A C : Nat) (W : World) (hS : Sl .i64 W a n c f) (hf : ∀ i, i < n → -9223372036854775808 ≤ f i ∧ f i ≤ 9223372036854775807) (b1 : i1 ≤ 255) (b2 : i2 ≤ 255) (b3 : i3 ≤ 4294967295) (hm : (i1 : Int) % 9 = m) (hq : (i2 : Int) % 9 = q) (hC : V m q = C) (k : Nat) (hn8 : n ≤ 8) (hk8 : k ≤ 8) (hk : sm f n = k) (hmA : (i3 : Int) % (C : Int) = A) (hAC : A < C) :
    Calls Try.prog 3 #[.slice a n c, .int .u8 i1, .int .u8 i2, .int .u32 i3] W fun e w' => e = .returned (.bool true) ∧ Below W.heap.size W w' := by
  have hm8 : m ≤ 8 := by omega
  have hq8 : q ≤ 8 := by omega
  have hn40 : n ≤ 40 := by omega
  have HC := Lib.hid (show cI m q = C by rw [cI_nat hm8 hq8, hC])
  have hc9 := V_le hm8 hq8
  rw [hC] at hc9
  have HS := Lib.hid hS
  have HF := Lib.hid hf
  have HA := Lib.hid (show A < V m q by rw [hC]; exact hAC)
  have hcz : ((C : Int) == 0) = false := by rw [beq_eq_false_iff_ne]; omega
  have hcne : (C : Int) ≠ 0 := by omega
  have hk8i : (k : Int) ≤ 8 := by omega
  have HK := Lib.hid hk
  have HP := Lib.hid (pI_of hn8 hk8 hk)
  clear hk
  clear hS hf hC
  go_enter Try.func3, Try.ntmps3
  go_wp2_with fail
  refine (awake_yes _).mono ?_
  rintro e w1 ⟨rfl, h1⟩
  have HB1 := Lib.hid h1
  have HS1 := Lib.hid (HS.out.below h1)
  clear h1 HS
  go_wp2_with fail
  refine (number_yes a n c k f w1 HS1.out HF.out HP.out hk8).mono ?_
  rintro e w2 ⟨rfl, h2⟩
  have HB2 := Lib.hid (below_trans HB1.out h2 HB1.out.size)
  have HS2 := Lib.hid (HS1.out.below h2)
  clear h2 HB1 HS1
  have HX := Lib.hid (num_lt HK.out)
  have HV := Lib.hid (show cI n k = V n k from cI_nat hn8 hk8)
  have hv9 := V_le hn8 hk8
  obtain ⟨X, hX⟩ : ∃ X, num f n k = X := ⟨_, rfl⟩
  have HXE := Lib.hid hX
  obtain ⟨v, hv⟩ : ∃ v, V n k = v := ⟨_, rfl⟩
  have HVE := Lib.hid hv
  rw [hX, hv] at HX
  rw [hv] at HV hv9
  have hx9 : X < v := HX.out
  rw [hX]
  clear hX hv
  go_wp2_with fail
  have HQ := Lib.hid (pulses_any a n c f w2 HS2.out HF.out)
  rw [HP.out] at HQ
  refine HQ.out.mono ?_
  rintro e w3 ⟨rfl, rfl⟩
  clear HQ
  go_wp2_with fail
  refine (vector_yes n k X _ hn8 hk8 (by rw [HVE.out]; exact hx9)).mono ?_
  rintro e w3 ⟨h, f1, f2, g, U, rfl, hg, hU, hA, h3⟩
  have HB3 := Lib.hid (below_trans HB2.out h3 HB2.out.size)
  have HSS := Lib.hid (same_yes (some ⟨g, 0, none⟩) a n n c h f w3 (Sl.of_isRow hU hA (by unfold maxLen; omega)) (HS2.out.below h3) (num_inj f1 HK.out (by rw [f2, HXE.out])))
  clear f1 f2 hg hU hA h3 HB2 HS2 HF
  have x0 : 0 ≤ (X : Int) := by omega
  go_wp2_with fail
  refine HSS.out.mono ?_
  rintro e w4 ⟨rfl, h4⟩
  have HB4 := Lib.hid (below_trans HB3.out h4 HB3.out.size)
  clear h4 HB3 HSS
  go_wp2_with fail
  refine (count_as _ _ _ _ HV.out).mono ?_
  rintro e wz ⟨rfl, h5⟩
  have HBz := Lib.hid (below_trans HB4.out h5 HB4.out.size)
  clear h5 HB4
  go_wp2_with fail
  refine (count_as _ _ _ _ HC.out).mono ?_
  rintro e wy ⟨rfl, h6⟩
  have HBy := Lib.hid (below_trans HBz.out h6 HBz.out.size)
  clear h6 HBz
  go_wp2_with fail
  simp only [hmA]
  refine (vector_yes m q A _ hm8 hq8 HA.out).mono ?_
  rintro e wx ⟨y, f1, f2, g, U, rfl, hg, hU, hAt, h7⟩
  have HBx := Lib.hid (below_trans HBy.out h7 HBy.out.size)
  have HN := Lib.hid (number_yes (some ⟨g, 0, none⟩) m m q y wx (Sl.of_isRow hU hAt (by unfold maxLen; omega)) (fits_of hq8 f1) (pI_of hm8 hq8 f1) hq8)
  rw [f2] at HN
  have HR := Lib.hid hU
  have HT := Lib.hid hAt
  have HY := Lib.hid f1
  clear f1 f2 hg hU hAt h7 HBy
  go_wp2_with fail
  refine HN.out.mono ?_
  rintro e wv ⟨rfl, h8⟩
  have HBv := Lib.hid (below_trans HBx.out h8 HBx.out.size)
  have HPv := Lib.hid (pulses_any (some ⟨g, 0, none⟩) m m y wv (Sl.of_isRow HR.out (HT.out.below h8 HT.out.lt) (by unfold maxLen; omega)) (fits_of hq8 HY.out))
  rw [pI_of hm8 hq8 HY.out] at HPv
  clear h8 HBx HR HT HY HN
  go_wp2_with fail
  refine HPv.out.mono ?_
  rintro e wu ⟨rfl, rfl⟩
  go_wp2_with fail
  go_ret
  exact ⟨rfl, HBv.out⟩

theorem vectBack_any (a : Option Addr) (n c : Nat) (f : Nat → Int) (a1 a2 a3 : Int) (W : World) (hS : Sl .i64 W a n c f) (hf : ∀ i, i < n → (Lit.int .i64 (f i)).wf = true) (w1 : (Lit.int .u8 a1).wf = true) (w2 : (Lit.int .u8 a2).wf = true) (w3 : (Lit.int .u32 a3).wf = true) :
    Calls Try.prog 3 #[.slice a n c, .int .u8 a1, .int .u8 a2, .int .u32 a3] W fun e w' => e = .returned (.bool true) ∧ Below W.heap.size W w' := by
  by_cases h : 40 < n
  · exact vectBack_many a n c a1 a2 a3 W h
  obtain ⟨i1, rfl, b1⟩ := u8_bd w1
  obtain ⟨i2, rfl, b2⟩ := u8_bd w2
  obtain ⟨i3, rfl, b3⟩ := u32_bd w3
  have hf' := i64_all hf
  obtain ⟨m, hm⟩ : ∃ m : Nat, (i1 : Int) % 9 = m := ⟨i1 % 9, by omega⟩
  obtain ⟨q, hq⟩ : ∃ q : Nat, (i2 : Int) % 9 = q := ⟨i2 % 9, by omega⟩
  obtain ⟨C, hC⟩ : ∃ C, V m q = C := ⟨_, rfl⟩
  have hp : pI f n = 9 ∨ (n ≤ 8 ∧ sm f n ≤ 8) := by
    unfold pI
    split <;> omega
  by_cases hz : C = 0
  · rcases hp with hp | ⟨hp, hp2⟩
    · exact vectBack_not_zero a n c f i1 i2 i3 m q 0 C W hS hf' b1 b2 b3 hm hq hC (by omega) hp hz
    · exact vectBack_yes_zero a n c f i1 i2 i3 m q 0 C W hS hf' b1 b2 b3 hm hq hC _ hp hp2 rfl hz
  · obtain ⟨A, hA, hAC⟩ := nat_mod i3 C (by omega)
    rcases hp with hp | ⟨hp, hp2⟩
    · exact vectBack_not_pos a n c f i1 i2 i3 m q A C W hS hf' b1 b2 b3 hm hq hC (by omega) hp hA hAC
    · exact vectBack_yes_pos a n c f i1 i2 i3 m q A C W hS hf' b1 b2 b3 hm hq hC _ hp hp2 rfl hA hAC
end Go.Proofs.Ytkpbmhppibfpoaa.Ve
