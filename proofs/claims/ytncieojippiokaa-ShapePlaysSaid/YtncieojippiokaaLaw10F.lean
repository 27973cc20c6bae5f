/- ShapePlays: the walks, lists that belong together; the whole. -/
import Derived.Test.YtncieojippiokaaLaw10E
set_option maxRecDepth 100000
set_option linter.unusedVariables false
namespace Go.Proofs.Ytncieojippiokaa.Sh
open Go.RowKit Go.Proofs.Ytncieojippiokaa.Row

set_option maxHeartbeats 1000000 in
theorem shapePlays_c1f0ag1 (a d : Option Addr) (n c e : Nat) (x y : Nat → Int) (k : Int) (W : World) (hS : Sl .i64 W a n c x) (hY : Sl .i64 W d n e y) (hx : ∀ i, i < n → -9223372036854775808 ≤ x i ∧ x i ≤ 9223372036854775807) (hy : ∀ i, i < n → -9223372036854775808 ≤ y i ∧ y i ≤ 9223372036854775807) (hn : n ≤ 40) (hm : n ≤ 40) (hC : okC x n = true) (hk : k < 0) (hG : okW y 8 n = true) :
    Calls Try.prog 5 #[.slice a n c, .int .i64 k, .slice d n e] W fun e w' => e = .returned (.bool true) ∧ Below W.heap.size W w' := by
  obtain ⟨h0, h8, hxb⟩ := (okC_iff x n).1 hC
  have HXB := Lib.hid hxb
  clear hx hxb
  have HC := Lib.hid hC
  clear hC
  have hyb := (okW_iff y 8 n).1 hG
  have HYB := Lib.hid hyb
  have HGE := Lib.hid hG
  clear hG hy hyb
  have HS := Lib.hid hS
  have HY := Lib.hid hY
  clear hS hY
  go_enter Try.func5, Try.ntmps5
  go_wp2_with fail
  refine (awake_yes _).mono ?_
  rintro e w1 ⟨rfl, h1⟩
  have HB1 := Lib.hid h1
  have HS1 := Lib.hid (HS.out.below h1)
  have HY1 := Lib.hid (HY.out.below h1)
  clear h1 HS HY
  go_wp2_with fail
  go_loop [7, 8] (fun s i => ∃ j : Nat, j ≤ n ∧ i = .int .i64 j ∧ s = .bool true) (fun _ i => n - (intOf i).toNat)
  case atStart => exact ⟨0, Nat.zero_le _, rfl, by first | rfl | exact congrArg Value.bool (decide_eq_true (by omega))⟩
  case round =>
    obtain ⟨j, hj, rfl, rfl⟩ := hrel
    by_cases hlt : j < n
    · obtain ⟨b, o, rfl, hc⟩ := HS1.out.2.2 (by omega)
      have c0 := hc j hlt
      obtain ⟨v1, v2⟩ := HXB.out j hlt
      obtain ⟨v, hv⟩ : ∃ v, x j = v := ⟨_, rfl⟩
      rw [hv] at c0 v1 v2
      clear hc hv
      go_wp2_with fail
      go_round
      case rel => exact ⟨j + 1, by omega, by go_num, rfl⟩
      case measure => simp [intOf]; omega
    · obtain rfl : j = n := by omega
      go_wp2_with fail
      refine (find_no a j c x k _ HS1.out (.inr (.inl hk))).mono ?_
      rintro e w2 ⟨rfl, rfl⟩
      have HB2 := Lib.hid HB1.out
      have HS2 := Lib.hid HS1.out
      have HY2 := Lib.hid HY1.out
      clear HB1 HS1 HY1
      go_wp2_with fail
      refine (gain_yes a d j c e x y _ HS2.out HY2.out HC.out HGE.out).mono ?_
      rintro e w5 ⟨rfl, rfl⟩
      have e1 : ((j : Int) == (j : Int)) = true := by simp
      go_wp2_with fail
      go_loop [15, 16] (fun s i => ∃ q : Nat, q ≤ j ∧ i = .int .i64 q ∧ s = .bool true) (fun _ i => j - (intOf i).toNat)
      case atStart => exact ⟨0, Nat.zero_le _, rfl, rfl⟩
      case round =>
        obtain ⟨q, hq, rfl, rfl⟩ := hrel
        by_cases hlt : q < j
        · obtain ⟨b4, o4, rfl, hc⟩ := HY2.out.2.2 (by omega)
          have c0 := hc q hlt
          obtain ⟨v1, v2⟩ := HYB.out q hlt
          obtain ⟨v, hv⟩ : ∃ v, y q = v := ⟨_, rfl⟩
          rw [hv] at c0 v1 v2
          clear hc hv
          go_wp2_with fail
          go_round
          case rel => exact ⟨q + 1, by omega, by go_num, rfl⟩
          case measure => simp [intOf]; omega
        · obtain rfl : q = j := by omega
          go_wp2_with fail
          obtain ⟨b1, o1, ea, hc⟩ := HS2.out.2.2 h0
          obtain ⟨b2, o2, rfl, hc2⟩ := HY2.out.2.2 h0
          obtain rfl := ea
          have HTP := Lib.hid (show O2P W b1 o1 b2 o2 q x y _ from ⟨HB2.out, hc, hc2⟩)
          have HM := Lib.hid (fun i hi => mul_bd (HXB.out i hi).1 (HXB.out i hi).2 (HYB.out i hi).1 (HYB.out i hi).2)
          have HMQ := Lib.hid (fun i hi => mul_bd (HYB.out i hi).1 (HYB.out i hi).2 (HYB.out i hi).1 (HYB.out i hi).2)
          clear hc hc2 HS2 HY2
          go_loopw [17, 18, 19] (fun s z i w' => ∃ t : Nat, t ≤ q ∧ i = .int .i64 t ∧ s = .int .i64 (aI x y t) ∧ z = .int .i64 (qI y t) ∧ O2P W b1 o1 b2 o2 q x y w') (fun _ _ i _ => q - (intOf i).toNat)
          case atStart => exact ⟨0, Nat.zero_le _, rfl, rfl, rfl, HTP.out⟩
          case round =>
            obtain ⟨t, ht, rfl, rfl, rfl, hs⟩ := hrel
            have HTT := Lib.hid hs
            clear hs HTP
            have hs := aI_bd (n := t) fun i hi => HM.out i (by omega)
            have hq := qI_bd (y := y) (n := t) fun i hi => ⟨by rcases Int.le_total 0 (y i) with h | h; exact Int.mul_nonneg h h; exact Int.mul_nonneg_of_nonpos_of_nonpos h h, (HMQ.out i (by omega)).2⟩
            by_cases hlt2 : t < q
            · have c0 := HTT.out.2.1 t hlt2
              have c1 := HTT.out.2.2 t hlt2
              obtain ⟨x1, x2⟩ := HM.out t hlt2
              obtain ⟨y1, y2⟩ := HMQ.out t hlt2
              have HA := Lib.hid (show aI x y (t + 1) = aI x y t + x t * y t from rfl)
              have HB := Lib.hid (show qI y (t + 1) = qI y t + y t * y t from rfl)
              obtain ⟨v, hv⟩ : ∃ v, x t = v := ⟨_, rfl⟩
              obtain ⟨u, hu⟩ : ∃ u, y t = u := ⟨_, rfl⟩
              obtain ⟨s, hse⟩ : ∃ s, aI x y t = s := ⟨_, rfl⟩
              obtain ⟨z, hqe⟩ : ∃ z, qI y t = z := ⟨_, rfl⟩
              rw [hv] at c0 x1 x2 HA
              rw [hu] at c1 x1 x2 y1 y2 HA HB
              rw [hse] at hs HA ⊢
              rw [hqe] at hq HB ⊢
              clear hv hu hse hqe
              have k0 : (0 : Int) ≤ (t : Int) := by omega
              have k1 : (t : Int) < (q : Int) := by omega
              have w1 : IntKind.i64.wrap (v * u) = v * u := IntWalk.i64_in _ (by omega)
              have w2 : IntKind.i64.wrap (u * u) = u * u := IntWalk.i64_in _ (by omega)
              have w3 : IntKind.i64.wrap (s + v * u) = s + v * u := IntWalk.i64_in _ (by omega)
              have w4 : IntKind.i64.wrap (z + u * u) = z + u * u := IntWalk.i64_in _ (by omega)
              go_wp2_with fail
              go_quiet (fail)
              go_wp2_with fail
              go_quiet (fail)
              go_wp2_with fail
              go_roundw
              case rel => exact ⟨t + 1, by omega, by go_num, by rw [HA.out], by rw [HB.out], HTT.out.drewN _⟩
              case measure => simp [intOf]; omega
            · obtain rfl : t = q := by omega
              obtain ⟨s, hse⟩ : ∃ s, aI x y t = s := ⟨_, rfl⟩
              obtain ⟨z, hqe⟩ : ∃ z, qI y t = z := ⟨_, rfl⟩
              rw [hse, hqe]
              have e1 : (s == s) = true := by simp
              have e2 : (z == z) = true := by simp
              clear hs hq hse hqe
              go_wp2_with fail
              go_ret
              exact ⟨rfl, HTT.out.1⟩

set_option maxHeartbeats 1000000 in
theorem shapePlays_c1f0bg1 (a d : Option Addr) (n c e : Nat) (x y : Nat → Int) (k : Int) (W : World) (hS : Sl .i64 W a n c x) (hY : Sl .i64 W d n e y) (hx : ∀ i, i < n → -9223372036854775808 ≤ x i ∧ x i ≤ 9223372036854775807) (hy : ∀ i, i < n → -9223372036854775808 ≤ y i ∧ y i ≤ 9223372036854775807) (hn : n ≤ 40) (hm : n ≤ 40) (hC : okC x n = true) (hk : 8 < k) (hG : okW y 8 n = true) :
    Calls Try.prog 5 #[.slice a n c, .int .i64 k, .slice d n e] W fun e w' => e = .returned (.bool true) ∧ Below W.heap.size W w' := by
  obtain ⟨h0, h8, hxb⟩ := (okC_iff x n).1 hC
  have HXB := Lib.hid hxb
  clear hx hxb
  have HC := Lib.hid hC
  clear hC
  have hyb := (okW_iff y 8 n).1 hG
  have HYB := Lib.hid hyb
  have HGE := Lib.hid hG
  clear hG hy hyb
  have HS := Lib.hid hS
  have HY := Lib.hid hY
  clear hS hY
  go_enter Try.func5, Try.ntmps5
  go_wp2_with fail
  refine (awake_yes _).mono ?_
  rintro e w1 ⟨rfl, h1⟩
  have HB1 := Lib.hid h1
  have HS1 := Lib.hid (HS.out.below h1)
  have HY1 := Lib.hid (HY.out.below h1)
  clear h1 HS HY
  go_wp2_with fail
  go_loop [7, 8] (fun s i => ∃ j : Nat, j ≤ n ∧ i = .int .i64 j ∧ s = .bool true) (fun _ i => n - (intOf i).toNat)
  case atStart => exact ⟨0, Nat.zero_le _, rfl, by first | rfl | exact congrArg Value.bool (decide_eq_true (by omega))⟩
  case round =>
    obtain ⟨j, hj, rfl, rfl⟩ := hrel
    by_cases hlt : j < n
    · obtain ⟨b, o, rfl, hc⟩ := HS1.out.2.2 (by omega)
      have c0 := hc j hlt
      obtain ⟨v1, v2⟩ := HXB.out j hlt
      obtain ⟨v, hv⟩ : ∃ v, x j = v := ⟨_, rfl⟩
      rw [hv] at c0 v1 v2
      clear hc hv
      go_wp2_with fail
      go_round
      case rel => exact ⟨j + 1, by omega, by go_num, rfl⟩
      case measure => simp [intOf]; omega
    · obtain rfl : j = n := by omega
      go_wp2_with fail
      refine (find_no a j c x k _ HS1.out (.inr (.inr hk))).mono ?_
      rintro e w2 ⟨rfl, rfl⟩
      have HB2 := Lib.hid HB1.out
      have HS2 := Lib.hid HS1.out
      have HY2 := Lib.hid HY1.out
      clear HB1 HS1 HY1
      go_wp2_with fail
      refine (gain_yes a d j c e x y _ HS2.out HY2.out HC.out HGE.out).mono ?_
      rintro e w5 ⟨rfl, rfl⟩
      have e1 : ((j : Int) == (j : Int)) = true := by simp
      go_wp2_with fail
      go_loop [15, 16] (fun s i => ∃ q : Nat, q ≤ j ∧ i = .int .i64 q ∧ s = .bool true) (fun _ i => j - (intOf i).toNat)
      case atStart => exact ⟨0, Nat.zero_le _, rfl, rfl⟩
      case round =>
        obtain ⟨q, hq, rfl, rfl⟩ := hrel
        by_cases hlt : q < j
        · obtain ⟨b4, o4, rfl, hc⟩ := HY2.out.2.2 (by omega)
          have c0 := hc q hlt
          obtain ⟨v1, v2⟩ := HYB.out q hlt
          obtain ⟨v, hv⟩ : ∃ v, y q = v := ⟨_, rfl⟩
          rw [hv] at c0 v1 v2
          clear hc hv
          go_wp2_with fail
          go_round
          case rel => exact ⟨q + 1, by omega, by go_num, rfl⟩
          case measure => simp [intOf]; omega
        · obtain rfl : q = j := by omega
          go_wp2_with fail
          obtain ⟨b1, o1, ea, hc⟩ := HS2.out.2.2 h0
          obtain ⟨b2, o2, rfl, hc2⟩ := HY2.out.2.2 h0
          obtain rfl := ea
          have HTP := Lib.hid (show O2P W b1 o1 b2 o2 q x y _ from ⟨HB2.out, hc, hc2⟩)
          have HM := Lib.hid (fun i hi => mul_bd (HXB.out i hi).1 (HXB.out i hi).2 (HYB.out i hi).1 (HYB.out i hi).2)
          have HMQ := Lib.hid (fun i hi => mul_bd (HYB.out i hi).1 (HYB.out i hi).2 (HYB.out i hi).1 (HYB.out i hi).2)
          clear hc hc2 HS2 HY2
          go_loopw [17, 18, 19] (fun s z i w' => ∃ t : Nat, t ≤ q ∧ i = .int .i64 t ∧ s = .int .i64 (aI x y t) ∧ z = .int .i64 (qI y t) ∧ O2P W b1 o1 b2 o2 q x y w') (fun _ _ i _ => q - (intOf i).toNat)
          case atStart => exact ⟨0, Nat.zero_le _, rfl, rfl, rfl, HTP.out⟩
          case round =>
            obtain ⟨t, ht, rfl, rfl, rfl, hs⟩ := hrel
            have HTT := Lib.hid hs
            clear hs HTP
            have hs := aI_bd (n := t) fun i hi => HM.out i (by omega)
            have hq := qI_bd (y := y) (n := t) fun i hi => ⟨by rcases Int.le_total 0 (y i) with h | h; exact Int.mul_nonneg h h; exact Int.mul_nonneg_of_nonpos_of_nonpos h h, (HMQ.out i (by omega)).2⟩
            by_cases hlt2 : t < q
            · have c0 := HTT.out.2.1 t hlt2
              have c1 := HTT.out.2.2 t hlt2
              obtain ⟨x1, x2⟩ := HM.out t hlt2
              obtain ⟨y1, y2⟩ := HMQ.out t hlt2
              have HA := Lib.hid (show aI x y (t + 1) = aI x y t + x t * y t from rfl)
              have HB := Lib.hid (show qI y (t + 1) = qI y t + y t * y t from rfl)
              obtain ⟨v, hv⟩ : ∃ v, x t = v := ⟨_, rfl⟩
              obtain ⟨u, hu⟩ : ∃ u, y t = u := ⟨_, rfl⟩
              obtain ⟨s, hse⟩ : ∃ s, aI x y t = s := ⟨_, rfl⟩
              obtain ⟨z, hqe⟩ : ∃ z, qI y t = z := ⟨_, rfl⟩
              rw [hv] at c0 x1 x2 HA
              rw [hu] at c1 x1 x2 y1 y2 HA HB
              rw [hse] at hs HA ⊢
              rw [hqe] at hq HB ⊢
              clear hv hu hse hqe
              have k0 : (0 : Int) ≤ (t : Int) := by omega
              have k1 : (t : Int) < (q : Int) := by omega
              have w1 : IntKind.i64.wrap (v * u) = v * u := IntWalk.i64_in _ (by omega)
              have w2 : IntKind.i64.wrap (u * u) = u * u := IntWalk.i64_in _ (by omega)
              have w3 : IntKind.i64.wrap (s + v * u) = s + v * u := IntWalk.i64_in _ (by omega)
              have w4 : IntKind.i64.wrap (z + u * u) = z + u * u := IntWalk.i64_in _ (by omega)
              go_wp2_with fail
              go_quiet (fail)
              go_wp2_with fail
              go_quiet (fail)
              go_wp2_with fail
              go_roundw
              case rel => exact ⟨t + 1, by omega, by go_num, by rw [HA.out], by rw [HB.out], HTT.out.drewN _⟩
              case measure => simp [intOf]; omega
            · obtain rfl : t = q := by omega
              obtain ⟨s, hse⟩ : ∃ s, aI x y t = s := ⟨_, rfl⟩
              obtain ⟨z, hqe⟩ : ∃ z, qI y t = z := ⟨_, rfl⟩
              rw [hse, hqe]
              have e1 : (s == s) = true := by simp
              have e2 : (z == z) = true := by simp
              clear hs hq hse hqe
              go_wp2_with fail
              go_ret
              exact ⟨rfl, HTT.out.1⟩

set_option maxHeartbeats 1000000 in
theorem shapePlays_c1f1g1 (a d : Option Addr) (n c e : Nat) (x y : Nat → Int) (K : Nat) (W : World) (hS : Sl .i64 W a n c x) (hY : Sl .i64 W d n e y) (hx : ∀ i, i < n → -9223372036854775808 ≤ x i ∧ x i ≤ 9223372036854775807) (hy : ∀ i, i < n → -9223372036854775808 ≤ y i ∧ y i ≤ 9223372036854775807) (hn : n ≤ 40) (hm : n ≤ 40) (hC : okC x n = true) (hK : K ≤ 8) (hG : okW y 8 n = true) :
    Calls Try.prog 5 #[.slice a n c, .int .i64 K, .slice d n e] W fun e w' => e = .returned (.bool true) ∧ Below W.heap.size W w' := by
  obtain ⟨h0, h8, hxb⟩ := (okC_iff x n).1 hC
  have HXB := Lib.hid hxb
  clear hx hxb
  have HC := Lib.hid hC
  clear hC
  have hyb := (okW_iff y 8 n).1 hG
  have HYB := Lib.hid hyb
  have HGE := Lib.hid hG
  clear hG hy hyb
  have HS := Lib.hid hS
  have HY := Lib.hid hY
  clear hS hY
  go_enter Try.func5, Try.ntmps5
  go_wp2_with fail
  refine (awake_yes _).mono ?_
  rintro e w1 ⟨rfl, h1⟩
  have HB1 := Lib.hid h1
  have HS1 := Lib.hid (HS.out.below h1)
  have HY1 := Lib.hid (HY.out.below h1)
  clear h1 HS HY
  go_wp2_with fail
  go_loop [7, 8] (fun s i => ∃ j : Nat, j ≤ n ∧ i = .int .i64 j ∧ s = .bool true) (fun _ i => n - (intOf i).toNat)
  case atStart => exact ⟨0, Nat.zero_le _, rfl, by first | rfl | exact congrArg Value.bool (decide_eq_true (by omega))⟩
  case round =>
    obtain ⟨j, hj, rfl, rfl⟩ := hrel
    by_cases hlt : j < n
    · obtain ⟨b, o, rfl, hc⟩ := HS1.out.2.2 (by omega)
      have c0 := hc j hlt
      obtain ⟨v1, v2⟩ := HXB.out j hlt
      obtain ⟨v, hv⟩ : ∃ v, x j = v := ⟨_, rfl⟩
      rw [hv] at c0 v1 v2
      clear hc hv
      go_wp2_with fail
      go_round
      case rel => exact ⟨j + 1, by omega, by go_num, rfl⟩
      case measure => simp [intOf]; omega
    · obtain rfl : j = n := by omega
      go_wp2_with fail
      refine (find_yes a j c K x _ HS1.out HC.out hK).mono ?_
      rintro e w2 ⟨g, U, rfl, hg, hU, hA, h2⟩
      have HB2 := Lib.hid (below_trans HB1.out h2 HB1.out.size)
      have HS2 := Lib.hid (HS1.out.below h2)
      have HY2 := Lib.hid (HY1.out.below h2)
      have HU := Lib.hid hU
      have HA := Lib.hid hA
      obtain ⟨b, o, rfl, hc⟩ := HS2.out.2.2 h0
      have HRF := Lib.hid (refFind_as b o j c K x w2 hc h0 h8 HXB.out hK)
      clear hg hU hA h2 hc HB1 HS1 HY1
      go_wp2_with fail
      refine HRF.out.mono ?_
      rintro e w3 ⟨g2, V, rfl, hg, hV, hA, h3⟩
      have HT := Lib.hid (show T2P W g g2 j (fS x j K) w3 from ⟨below_trans HB2.out h3 HB2.out.size, fun i hi => HU.out.cell (HA.out.below h3 HA.out.lt) i hi, fun i hi => hV.cell hA i hi⟩)
      have HZ := Lib.hid (show ∀ w', Below w3.heap.size w3 w' → Sl .i64 w' (some ⟨b, o, none⟩) j c x ∧ Sl .i64 w' d j e y from fun w' h => ⟨(HS2.out.below h3).below h, (HY2.out.below h3).below h⟩)
      have hmm : ((j : Int) != (j : Int)) = false := by simp
      clear hg hV hA h3 HB2 HRF HU HA HS2 HY2
      go_wp2_with fail
      go_loopw [12] (fun i w' => ∃ p : Nat, p ≤ j ∧ i = .int .i64 p ∧ T2P W g g2 j (fS x j K) w' ∧ Below w3.heap.size w3 w') (fun i _ => j - (intOf i).toNat)
      case atStart => exact ⟨0, Nat.zero_le _, rfl, HT.out, Below.refl _ _⟩
      case round =>
        obtain ⟨p, hp, rfl, ht, hb⟩ := hrel
        have HTT := Lib.hid ht
        have HBB := Lib.hid hb
        clear ht HT hb
        by_cases hlt2 : p < j
        · have d0 := HTT.out.2.1 p hlt2
          have d1 := HTT.out.2.2 p hlt2
          obtain ⟨v, hv⟩ : ∃ v, fS x j K p = v := ⟨_, rfl⟩
          rw [hv] at d0 d1
          have q1 : (v != v) = false := by simp
          have k0 : (0 : Int) ≤ (p : Int) := by omega
          have k1 : (p : Int) < (j : Int) := by omega
          clear hv HZ
          go_wp2_with fail
          go_quiet (fail)
          go_wp2_with fail
          go_roundw
          case rel => exact ⟨p + 1, by omega, by go_num, HTT.out.drewN _, below_drewN HBB.out _⟩
          case measure => simp [intOf]; omega
        · obtain rfl : p = j := by omega
          have HB2 := Lib.hid HTT.out.1
          have HS2 := Lib.hid (HZ.out _ HBB.out).1
          have HY2 := Lib.hid (HZ.out _ HBB.out).2
          clear HTT HBB HZ hmm
          obtain ⟨w4, hw4⟩ : ∃ w4, wr = w4 := ⟨_, rfl⟩
          rw [hw4] at HB2 HS2 HY2 ⊢
          clear hw4
          go_wp2_with fail
          refine (gain_yes (some ⟨b, o, none⟩) d p c e x y _ HS2.out HY2.out HC.out HGE.out).mono ?_
          rintro e w5 ⟨rfl, rfl⟩
          have e1 : ((p : Int) == (p : Int)) = true := by simp
          go_wp2_with fail
          go_loop [15, 16] (fun s i => ∃ q : Nat, q ≤ p ∧ i = .int .i64 q ∧ s = .bool true) (fun _ i => p - (intOf i).toNat)
          case atStart => exact ⟨0, Nat.zero_le _, rfl, rfl⟩
          case round =>
            obtain ⟨q, hq, rfl, rfl⟩ := hrel
            by_cases hlt : q < p
            · obtain ⟨b4, o4, rfl, hc⟩ := HY2.out.2.2 (by omega)
              have c0 := hc q hlt
              obtain ⟨v1, v2⟩ := HYB.out q hlt
              obtain ⟨v, hv⟩ : ∃ v, y q = v := ⟨_, rfl⟩
              rw [hv] at c0 v1 v2
              clear hc hv
              go_wp2_with fail
              go_round
              case rel => exact ⟨q + 1, by omega, by go_num, rfl⟩
              case measure => simp [intOf]; omega
            · obtain rfl : q = p := by omega
              go_wp2_with fail
              obtain ⟨b1, o1, ea, hc⟩ := HS2.out.2.2 h0
              obtain ⟨b2, o2, rfl, hc2⟩ := HY2.out.2.2 h0
              injection ea with ea; injection ea with ea1 ea2; subst ea1 ea2
              have HTP := Lib.hid (show O2P W b o b2 o2 q x y _ from ⟨HB2.out, hc, hc2⟩)
              have HM := Lib.hid (fun i hi => mul_bd (HXB.out i hi).1 (HXB.out i hi).2 (HYB.out i hi).1 (HYB.out i hi).2)
              have HMQ := Lib.hid (fun i hi => mul_bd (HYB.out i hi).1 (HYB.out i hi).2 (HYB.out i hi).1 (HYB.out i hi).2)
              clear hc hc2 HS2 HY2
              go_loopw [17, 18, 19] (fun s z i w' => ∃ t : Nat, t ≤ q ∧ i = .int .i64 t ∧ s = .int .i64 (aI x y t) ∧ z = .int .i64 (qI y t) ∧ O2P W b o b2 o2 q x y w') (fun _ _ i _ => q - (intOf i).toNat)
              case atStart => exact ⟨0, Nat.zero_le _, rfl, rfl, rfl, HTP.out⟩
              case round =>
                obtain ⟨t, ht, rfl, rfl, rfl, hs⟩ := hrel
                have HTT := Lib.hid hs
                clear hs HTP
                have hs := aI_bd (n := t) fun i hi => HM.out i (by omega)
                have hq := qI_bd (y := y) (n := t) fun i hi => ⟨by rcases Int.le_total 0 (y i) with h | h; exact Int.mul_nonneg h h; exact Int.mul_nonneg_of_nonpos_of_nonpos h h, (HMQ.out i (by omega)).2⟩
                by_cases hlt2 : t < q
                · have c0 := HTT.out.2.1 t hlt2
                  have c1 := HTT.out.2.2 t hlt2
                  obtain ⟨x1, x2⟩ := HM.out t hlt2
                  obtain ⟨y1, y2⟩ := HMQ.out t hlt2
                  have HA := Lib.hid (show aI x y (t + 1) = aI x y t + x t * y t from rfl)
                  have HB := Lib.hid (show qI y (t + 1) = qI y t + y t * y t from rfl)
                  obtain ⟨v, hv⟩ : ∃ v, x t = v := ⟨_, rfl⟩
                  obtain ⟨u, hu⟩ : ∃ u, y t = u := ⟨_, rfl⟩
                  obtain ⟨s, hse⟩ : ∃ s, aI x y t = s := ⟨_, rfl⟩
                  obtain ⟨z, hqe⟩ : ∃ z, qI y t = z := ⟨_, rfl⟩
                  rw [hv] at c0 x1 x2 HA
                  rw [hu] at c1 x1 x2 y1 y2 HA HB
                  rw [hse] at hs HA ⊢
                  rw [hqe] at hq HB ⊢
                  clear hv hu hse hqe
                  have k0 : (0 : Int) ≤ (t : Int) := by omega
                  have k1 : (t : Int) < (q : Int) := by omega
                  have w1 : IntKind.i64.wrap (v * u) = v * u := IntWalk.i64_in _ (by omega)
                  have w2 : IntKind.i64.wrap (u * u) = u * u := IntWalk.i64_in _ (by omega)
                  have w3 : IntKind.i64.wrap (s + v * u) = s + v * u := IntWalk.i64_in _ (by omega)
                  have w4 : IntKind.i64.wrap (z + u * u) = z + u * u := IntWalk.i64_in _ (by omega)
                  go_wp2_with fail
                  go_quiet (fail)
                  go_wp2_with fail
                  go_quiet (fail)
                  go_wp2_with fail
                  go_roundw
                  case rel => exact ⟨t + 1, by omega, by go_num, by rw [HA.out], by rw [HB.out], HTT.out.drewN _⟩
                  case measure => simp [intOf]; omega
                · obtain rfl : t = q := by omega
                  obtain ⟨s, hse⟩ : ∃ s, aI x y t = s := ⟨_, rfl⟩
                  obtain ⟨z, hqe⟩ : ∃ z, qI y t = z := ⟨_, rfl⟩
                  rw [hse, hqe]
                  have e1 : (s == s) = true := by simp
                  have e2 : (z == z) = true := by simp
                  clear hs hq hse hqe
                  go_wp2_with fail
                  go_ret
                  exact ⟨rfl, HTT.out.1⟩

theorem shapePlays_some (a d : Option Addr) (n c m e : Nat) (x y : Nat → Int) (k : Int) (W : World) (hS : Sl .i64 W a n c x) (hY : Sl .i64 W d m e y) (hx : ∀ i, i < n → -9223372036854775808 ≤ x i ∧ x i ≤ 9223372036854775807) (hy : ∀ i, i < m → -9223372036854775808 ≤ y i ∧ y i ≤ 9223372036854775807) (hn : n ≤ 40) (hm : m ≤ 40) :
    Calls Try.prog 5 #[.slice a n c, .int .i64 k, .slice d m e] W fun e w' => e = .returned (.bool true) ∧ Below W.heap.size W w' := by
  by_cases h0 : n = 0
  · exact shapePlays_c0a a d n c m e x y k W hS hY hx hy hn hm h0
  by_cases h8 : 8 < n
  · exact shapePlays_c0b a d n c m e x y k W hS hY hx hy hn hm h8
  cases hW : okW x 1048576 n
  · exact shapePlays_c0c a d n c m e x y k W hS hY hx hy hn hm (by omega) (by omega) hW
  have hC : okC x n = true := by unfold okC; rw [hW, decide_eq_true (by omega)]; rfl
  by_cases hmn : m = n
  · subst hmn
    cases hG : okW y 8 m
    · by_cases k0 : k < 0
      · exact shapePlays_c1f0ag0b a d m c e x y k W hS hY hx hy hn hm hC k0 hG
      · by_cases k8 : 8 < k
        · exact shapePlays_c1f0bg0b a d m c e x y k W hS hY hx hy hn hm hC k8 hG
        · obtain ⟨K, rfl⟩ := Int.eq_ofNat_of_zero_le (show 0 ≤ k by omega)
          exact shapePlays_c1f1g0b a d m c e x y K W hS hY hx hy hn hm hC (by omega) hG
    · by_cases k0 : k < 0
      · exact shapePlays_c1f0ag1 a d m c e x y k W hS hY hx hy hn hm hC k0 hG
      · by_cases k8 : 8 < k
        · exact shapePlays_c1f0bg1 a d m c e x y k W hS hY hx hy hn hm hC k8 hG
        · obtain ⟨K, rfl⟩ := Int.eq_ofNat_of_zero_le (show 0 ≤ k by omega)
          exact shapePlays_c1f1g1 a d m c e x y K W hS hY hx hy hn hm hC (by omega) hG
  · by_cases k0 : k < 0
    · exact shapePlays_c1f0ag0a a d n c m e x y k W hS hY hx hy hn hm hC k0 hmn
    · by_cases k8 : 8 < k
      · exact shapePlays_c1f0bg0a a d n c m e x y k W hS hY hx hy hn hm hC k8 hmn
      · obtain ⟨K, rfl⟩ := Int.eq_ofNat_of_zero_le (show 0 ≤ k by omega)
        exact shapePlays_c1f1g0a a d n c m e x y K W hS hY hx hy hn hm hC (by omega) hmn

theorem shapePlays_any (a d : Option Addr) (n c m e : Nat) (x y : Nat → Int) (k : Int) (W : World) (hS : Sl .i64 W a n c x) (hY : Sl .i64 W d m e y) (hx : ∀ i, i < n → (Lit.int .i64 (x i)).wf = true) (hy : ∀ i, i < m → (Lit.int .i64 (y i)).wf = true) :
    Calls Try.prog 5 #[.slice a n c, .int .i64 k, .slice d m e] W fun e w' => e = .returned (.bool true) ∧ Below W.heap.size W w' := by
  by_cases h : 40 < n ∨ 40 < m
  · exact shapePlays_long a d n c m e k W h (Nat.le_trans hS.1 hS.2.1) (Nat.le_trans hY.1 hY.2.1)
  · exact shapePlays_some a d n c m e x y k W hS hY (i64_all hx) (i64_all hy) (by omega) (by omega)
end Go.Proofs.Ytncieojippiokaa.Sh
