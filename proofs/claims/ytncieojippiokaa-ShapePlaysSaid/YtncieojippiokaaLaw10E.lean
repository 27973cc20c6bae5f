/- ShapePlays: the walks, lists of one length, of which one is no list of pulses. -/
import Derived.Test.YtncieojippiokaaLaw10D
set_option maxRecDepth 100000
set_option linter.unusedVariables false
namespace Go.Proofs.Ytncieojippiokaa.Sh
open Go.RowKit Go.Proofs.Ytncieojippiokaa.Row

set_option maxHeartbeats 1000000 in
theorem shapePlays_c1f0ag0b (a d : Option Addr) (n c e : Nat) (x y : Nat → Int) (k : Int) (W : World) (hS : Sl .i64 W a n c x) (hY : Sl .i64 W d n e y) (hx : ∀ i, i < n → -9223372036854775808 ≤ x i ∧ x i ≤ 9223372036854775807) (hy : ∀ i, i < n → -9223372036854775808 ≤ y i ∧ y i ≤ 9223372036854775807) (hn : n ≤ 40) (hm : n ≤ 40) (hC : okC x n = true) (hk : k < 0) (hG : okW y 8 n = false) :
    Calls Try.prog 5 #[.slice a n c, .int .i64 k, .slice d n e] W fun e w' => e = .returned (.bool true) ∧ Below W.heap.size W w' := by
  obtain ⟨h0, h8, hxb⟩ := (okC_iff x n).1 hC
  have HXB := Lib.hid hxb
  clear hx hxb
  have HC := Lib.hid hC
  clear hC
  have HYB := Lib.hid hy
  clear hy
  have HG := Lib.hid hG
  clear hG
  have HS := Lib.hid hS
  have HY := Lib.hid hY
  clear hS hY
  go_enter Try.func5, Try.ntmps5
  go_wp2_with fail
  refine (awake_yes _).mono ?_
  rintro e w1 ⟨rfl, h1⟩
  have HB1 := Lib.hid h1
  have HS1 := Lib.hid (HS.out.below h1)
  have HY1 := Lib.hid (HY.out.below h1)
  clear h1 HS HY
  go_wp2_with fail
  go_loop [7, 8] (fun s i => ∃ j : Nat, j ≤ n ∧ i = .int .i64 j ∧ s = .bool true) (fun _ i => n - (intOf i).toNat)
  case atStart => exact ⟨0, Nat.zero_le _, rfl, by first | rfl | exact congrArg Value.bool (decide_eq_true (by omega))⟩
  case round =>
    obtain ⟨j, hj, rfl, rfl⟩ := hrel
    by_cases hlt : j < n
    · obtain ⟨b, o, rfl, hc⟩ := HS1.out.2.2 (by omega)
      have c0 := hc j hlt
      obtain ⟨v1, v2⟩ := HXB.out j hlt
      obtain ⟨v, hv⟩ : ∃ v, x j = v := ⟨_, rfl⟩
      rw [hv] at c0 v1 v2
      clear hc hv
      go_wp2_with fail
      go_round
      case rel => exact ⟨j + 1, by omega, by go_num, rfl⟩
      case measure => simp [intOf]; omega
    · obtain rfl : j = n := by omega
      go_wp2_with fail
      refine (find_no a j c x k _ HS1.out (.inr (.inl hk))).mono ?_
      rintro e w2 ⟨rfl, rfl⟩
      have HB2 := Lib.hid HB1.out
      have HS2 := Lib.hid HS1.out
      have HY2 := Lib.hid HY1.out
      clear HB1 HS1 HY1
      go_wp2_with fail
      refine (gain_no a d j c j e x y _ HS2.out HY2.out (.inr (.inr HG.out))).mono ?_
      rintro e w5 ⟨rfl, rfl⟩
      have e1 : ((j : Int) == (j : Int)) = true := by simp
      go_wp2_with fail
      go_loop [15, 16] (fun s i => ∃ q : Nat, q ≤ j ∧ i = .int .i64 q ∧ s = .bool (okW y 8 q)) (fun _ i => j - (intOf i).toNat)
      case atStart => exact ⟨0, Nat.zero_le _, rfl, rfl⟩
      case round =>
        obtain ⟨q, hq, rfl, rfl⟩ := hrel
        by_cases hlt : q < j
        · obtain ⟨b4, o4, rfl, hc⟩ := HY2.out.2.2 (by omega)
          have c0 := hc q hlt
          have xb := HYB.out q hlt
          have HR := Lib.hid (okW_next y 8 q)
          obtain ⟨v, hv⟩ : ∃ v, y q = v := ⟨_, rfl⟩
          rw [hv] at c0 xb HR
          clear hc hv
          obtain ⟨r, hr⟩ : ∃ r, okW y 8 q = r := ⟨_, rfl⟩
          rw [hr] at HR ⊢
          clear hr
          cases r
          · go_wp2_with fail
            go_round
            case rel => exact ⟨q + 1, by omega, by go_num, congrArg Value.bool (by rw [HR.out]; rfl)⟩
            case measure => simp [intOf]; omega
          · by_cases v1 : -8 ≤ v
            · by_cases v2 : v ≤ 8
              · go_wp2_with fail
                go_round
                case rel => exact ⟨q + 1, by omega, by go_num, congrArg Value.bool (by rw [HR.out, decide_eq_true ⟨v1, v2⟩]; rfl)⟩
                case measure => simp [intOf]; omega
              · go_wp2_with fail
                go_round
                case rel => exact ⟨q + 1, by omega, by go_num, congrArg Value.bool (by rw [HR.out, decide_eq_false (by omega)]; rfl)⟩
                case measure => simp [intOf]; omega
            · go_wp2_with fail
              go_round
              case rel => exact ⟨q + 1, by omega, by go_num, congrArg Value.bool (by rw [HR.out, decide_eq_false (by omega)]; rfl)⟩
              case measure => simp [intOf]; omega
        · obtain rfl : q = j := by omega
          rw [HG.out]
          go_wp2_with fail
          go_ret
          exact ⟨rfl, HB2.out⟩

set_option maxHeartbeats 1000000 in
theorem shapePlays_c1f0bg0b (a d : Option Addr) (n c e : Nat) (x y : Nat → Int) (k : Int) (W : World) (hS : Sl .i64 W a n c x) (hY : Sl .i64 W d n e y) (hx : ∀ i, i < n → -9223372036854775808 ≤ x i ∧ x i ≤ 9223372036854775807) (hy : ∀ i, i < n → -9223372036854775808 ≤ y i ∧ y i ≤ 9223372036854775807) (hn : n ≤ 40) (hm : n ≤ 40) (hC : okC x n = true) (hk : 8 < k) (hG : okW y 8 n = false) :
    Calls Try.prog 5 #[.slice a n c, .int .i64 k, .slice d n e] W fun e w' => e = .returned (.bool true) ∧ Below W.heap.size W w' := by
  obtain ⟨h0, h8, hxb⟩ := (okC_iff x n).1 hC
  have HXB := Lib.hid hxb
  clear hx hxb
  have HC := Lib.hid hC
  clear hC
  have HYB := Lib.hid hy
  clear hy
  have HG := Lib.hid hG
  clear hG
  have HS := Lib.hid hS
  have HY := Lib.hid hY
  clear hS hY
  go_enter Try.func5, Try.ntmps5
  go_wp2_with fail
  refine (awake_yes _).mono ?_
  rintro e w1 ⟨rfl, h1⟩
  have HB1 := Lib.hid h1
  have HS1 := Lib.hid (HS.out.below h1)
  have HY1 := Lib.hid (HY.out.below h1)
  clear h1 HS HY
  go_wp2_with fail
  go_loop [7, 8] (fun s i => ∃ j : Nat, j ≤ n ∧ i = .int .i64 j ∧ s = .bool true) (fun _ i => n - (intOf i).toNat)
  case atStart => exact ⟨0, Nat.zero_le _, rfl, by first | rfl | exact congrArg Value.bool (decide_eq_true (by omega))⟩
  case round =>
    obtain ⟨j, hj, rfl, rfl⟩ := hrel
    by_cases hlt : j < n
    · obtain ⟨b, o, rfl, hc⟩ := HS1.out.2.2 (by omega)
      have c0 := hc j hlt
      obtain ⟨v1, v2⟩ := HXB.out j hlt
      obtain ⟨v, hv⟩ : ∃ v, x j = v := ⟨_, rfl⟩
      rw [hv] at c0 v1 v2
      clear hc hv
      go_wp2_with fail
      go_round
      case rel => exact ⟨j + 1, by omega, by go_num, rfl⟩
      case measure => simp [intOf]; omega
    · obtain rfl : j = n := by omega
      go_wp2_with fail
      refine (find_no a j c x k _ HS1.out (.inr (.inr hk))).mono ?_
      rintro e w2 ⟨rfl, rfl⟩
      have HB2 := Lib.hid HB1.out
      have HS2 := Lib.hid HS1.out
      have HY2 := Lib.hid HY1.out
      clear HB1 HS1 HY1
      go_wp2_with fail
      refine (gain_no a d j c j e x y _ HS2.out HY2.out (.inr (.inr HG.out))).mono ?_
      rintro e w5 ⟨rfl, rfl⟩
      have e1 : ((j : Int) == (j : Int)) = true := by simp
      go_wp2_with fail
      go_loop [15, 16] (fun s i => ∃ q : Nat, q ≤ j ∧ i = .int .i64 q ∧ s = .bool (okW y 8 q)) (fun _ i => j - (intOf i).toNat)
      case atStart => exact ⟨0, Nat.zero_le _, rfl, rfl⟩
      case round =>
        obtain ⟨q, hq, rfl, rfl⟩ := hrel
        by_cases hlt : q < j
        · obtain ⟨b4, o4, rfl, hc⟩ := HY2.out.2.2 (by omega)
          have c0 := hc q hlt
          have xb := HYB.out q hlt
          have HR := Lib.hid (okW_next y 8 q)
          obtain ⟨v, hv⟩ : ∃ v, y q = v := ⟨_, rfl⟩
          rw [hv] at c0 xb HR
          clear hc hv
          obtain ⟨r, hr⟩ : ∃ r, okW y 8 q = r := ⟨_, rfl⟩
          rw [hr] at HR ⊢
          clear hr
          cases r
          · go_wp2_with fail
            go_round
            case rel => exact ⟨q + 1, by omega, by go_num, congrArg Value.bool (by rw [HR.out]; rfl)⟩
            case measure => simp [intOf]; omega
          · by_cases v1 : -8 ≤ v
            · by_cases v2 : v ≤ 8
              · go_wp2_with fail
                go_round
                case rel => exact ⟨q + 1, by omega, by go_num, congrArg Value.bool (by rw [HR.out, decide_eq_true ⟨v1, v2⟩]; rfl)⟩
                case measure => simp [intOf]; omega
              · go_wp2_with fail
                go_round
                case rel => exact ⟨q + 1, by omega, by go_num, congrArg Value.bool (by rw [HR.out, decide_eq_false (by omega)]; rfl)⟩
                case measure => simp [intOf]; omega
            · go_wp2_with fail
              go_round
              case rel => exact ⟨q + 1, by omega, by go_num, congrArg Value.bool (by rw [HR.out, decide_eq_false (by omega)]; rfl)⟩
              case measure => simp [intOf]; omega
        · obtain rfl : q = j := by omega
          rw [HG.out]
          go_wp2_with fail
          go_ret
          exact ⟨rfl, HB2.out⟩

set_option maxHeartbeats 1000000 in
theorem shapePlays_c1f1g0b (a d : Option Addr) (n c e : Nat) (x y : Nat → Int) (K : Nat) (W : World) (hS : Sl .i64 W a n c x) (hY : Sl .i64 W d n e y) (hx : ∀ i, i < n → -9223372036854775808 ≤ x i ∧ x i ≤ 9223372036854775807) (hy : ∀ i, i < n → -9223372036854775808 ≤ y i ∧ y i ≤ 9223372036854775807) (hn : n ≤ 40) (hm : n ≤ 40) (hC : okC x n = true) (hK : K ≤ 8) (hG : okW y 8 n = false) :
    Calls Try.prog 5 #[.slice a n c, .int .i64 K, .slice d n e] W fun e w' => e = .returned (.bool true) ∧ Below W.heap.size W w' := by
  obtain ⟨h0, h8, hxb⟩ := (okC_iff x n).1 hC
  have HXB := Lib.hid hxb
  clear hx hxb
  have HC := Lib.hid hC
  clear hC
  have HYB := Lib.hid hy
  clear hy
  have HG := Lib.hid hG
  clear hG
  have HS := Lib.hid hS
  have HY := Lib.hid hY
  clear hS hY
  go_enter Try.func5, Try.ntmps5
  go_wp2_with fail
  refine (awake_yes _).mono ?_
  rintro e w1 ⟨rfl, h1⟩
  have HB1 := Lib.hid h1
  have HS1 := Lib.hid (HS.out.below h1)
  have HY1 := Lib.hid (HY.out.below h1)
  clear h1 HS HY
  go_wp2_with fail
  go_loop [7, 8] (fun s i => ∃ j : Nat, j ≤ n ∧ i = .int .i64 j ∧ s = .bool true) (fun _ i => n - (intOf i).toNat)
  case atStart => exact ⟨0, Nat.zero_le _, rfl, by first | rfl | exact congrArg Value.bool (decide_eq_true (by omega))⟩
  case round =>
    obtain ⟨j, hj, rfl, rfl⟩ := hrel
    by_cases hlt : j < n
    · obtain ⟨b, o, rfl, hc⟩ := HS1.out.2.2 (by omega)
      have c0 := hc j hlt
      obtain ⟨v1, v2⟩ := HXB.out j hlt
      obtain ⟨v, hv⟩ : ∃ v, x j = v := ⟨_, rfl⟩
      rw [hv] at c0 v1 v2
      clear hc hv
      go_wp2_with fail
      go_round
      case rel => exact ⟨j + 1, by omega, by go_num, rfl⟩
      case measure => simp [intOf]; omega
    · obtain rfl : j = n := by omega
      go_wp2_with fail
      refine (find_yes a j c K x _ HS1.out HC.out hK).mono ?_
      rintro e w2 ⟨g, U, rfl, hg, hU, hA, h2⟩
      have HB2 := Lib.hid (below_trans HB1.out h2 HB1.out.size)
      have HS2 := Lib.hid (HS1.out.below h2)
      have HY2 := Lib.hid (HY1.out.below h2)
      have HU := Lib.hid hU
      have HA := Lib.hid hA
      obtain ⟨b, o, rfl, hc⟩ := HS2.out.2.2 h0
      have HRF := Lib.hid (refFind_as b o j c K x w2 hc h0 h8 HXB.out hK)
      clear hg hU hA h2 hc HB1 HS1 HY1
      go_wp2_with fail
      refine HRF.out.mono ?_
      rintro e w3 ⟨g2, V, rfl, hg, hV, hA, h3⟩
      have HT := Lib.hid (show T2P W g g2 j (fS x j K) w3 from ⟨below_trans HB2.out h3 HB2.out.size, fun i hi => HU.out.cell (HA.out.below h3 HA.out.lt) i hi, fun i hi => hV.cell hA i hi⟩)
      have HZ := Lib.hid (show ∀ w', Below w3.heap.size w3 w' → Sl .i64 w' (some ⟨b, o, none⟩) j c x ∧ Sl .i64 w' d j e y from fun w' h => ⟨(HS2.out.below h3).below h, (HY2.out.below h3).below h⟩)
      have hmm : ((j : Int) != (j : Int)) = false := by simp
      clear hg hV hA h3 HB2 HRF HU HA HS2 HY2
      go_wp2_with fail
      go_loopw [12] (fun i w' => ∃ p : Nat, p ≤ j ∧ i = .int .i64 p ∧ T2P W g g2 j (fS x j K) w' ∧ Below w3.heap.size w3 w') (fun i _ => j - (intOf i).toNat)
      case atStart => exact ⟨0, Nat.zero_le _, rfl, HT.out, Below.refl _ _⟩
      case round =>
        obtain ⟨p, hp, rfl, ht, hb⟩ := hrel
        have HTT := Lib.hid ht
        have HBB := Lib.hid hb
        clear ht HT hb
        by_cases hlt2 : p < j
        · have d0 := HTT.out.2.1 p hlt2
          have d1 := HTT.out.2.2 p hlt2
          obtain ⟨v, hv⟩ : ∃ v, fS x j K p = v := ⟨_, rfl⟩
          rw [hv] at d0 d1
          have q1 : (v != v) = false := by simp
          have k0 : (0 : Int) ≤ (p : Int) := by omega
          have k1 : (p : Int) < (j : Int) := by omega
          clear hv HZ
          go_wp2_with fail
          go_quiet (fail)
          go_wp2_with fail
          go_roundw
          case rel => exact ⟨p + 1, by omega, by go_num, HTT.out.drewN _, below_drewN HBB.out _⟩
          case measure => simp [intOf]; omega
        · obtain rfl : p = j := by omega
          have HB2 := Lib.hid HTT.out.1
          have HS2 := Lib.hid (HZ.out _ HBB.out).1
          have HY2 := Lib.hid (HZ.out _ HBB.out).2
          clear HTT HBB HZ hmm
          obtain ⟨w4, hw4⟩ : ∃ w4, wr = w4 := ⟨_, rfl⟩
          rw [hw4] at HB2 HS2 HY2 ⊢
          clear hw4
          go_wp2_with fail
          refine (gain_no (some ⟨b, o, none⟩) d p c p e x y _ HS2.out HY2.out (.inr (.inr HG.out))).mono ?_
          rintro e w5 ⟨rfl, rfl⟩
          have e1 : ((p : Int) == (p : Int)) = true := by simp
          go_wp2_with fail
          go_loop [15, 16] (fun s i => ∃ q : Nat, q ≤ p ∧ i = .int .i64 q ∧ s = .bool (okW y 8 q)) (fun _ i => p - (intOf i).toNat)
          case atStart => exact ⟨0, Nat.zero_le _, rfl, rfl⟩
          case round =>
            obtain ⟨q, hq, rfl, rfl⟩ := hrel
            by_cases hlt : q < p
            · obtain ⟨b4, o4, rfl, hc⟩ := HY2.out.2.2 (by omega)
              have c0 := hc q hlt
              have xb := HYB.out q hlt
              have HR := Lib.hid (okW_next y 8 q)
              obtain ⟨v, hv⟩ : ∃ v, y q = v := ⟨_, rfl⟩
              rw [hv] at c0 xb HR
              clear hc hv
              obtain ⟨r, hr⟩ : ∃ r, okW y 8 q = r := ⟨_, rfl⟩
              rw [hr] at HR ⊢
              clear hr
              cases r
              · go_wp2_with fail
                go_round
                case rel => exact ⟨q + 1, by omega, by go_num, congrArg Value.bool (by rw [HR.out]; rfl)⟩
                case measure => simp [intOf]; omega
              · by_cases v1 : -8 ≤ v
                · by_cases v2 : v ≤ 8
                  · go_wp2_with fail
                    go_round
                    case rel => exact ⟨q + 1, by omega, by go_num, congrArg Value.bool (by rw [HR.out, decide_eq_true ⟨v1, v2⟩]; rfl)⟩
                    case measure => simp [intOf]; omega
                  · go_wp2_with fail
                    go_round
                    case rel => exact ⟨q + 1, by omega, by go_num, congrArg Value.bool (by rw [HR.out, decide_eq_false (by omega)]; rfl)⟩
                    case measure => simp [intOf]; omega
                · go_wp2_with fail
                  go_round
                  case rel => exact ⟨q + 1, by omega, by go_num, congrArg Value.bool (by rw [HR.out, decide_eq_false (by omega)]; rfl)⟩
                  case measure => simp [intOf]; omega
            · obtain rfl : q = p := by omega
              rw [HG.out]
              go_wp2_with fail
              go_ret
              exact ⟨rfl, HB2.out⟩

end Go.Proofs.Ytncieojippiokaa.Sh
