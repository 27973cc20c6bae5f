/- Contract of the document's Number. -/
import Derived.Test.YtkpbmhppibfpoaaVeS
set_option maxRecDepth 100000
set_option linter.unusedVariables false
namespace Go.Proofs.Ytkpbmhppibfpoaa.Ve
open Go.RowKit Go.Proofs.Ytkpbmhppibfpoaa.Row Go.Maps Go.WideMaps

set_option maxHeartbeats 400000 in
theorem refNumber_yes (a : Option Addr) (n c k : Nat) (f : Nat → Int) (w : World) (hS : Sl .i64 w a n c f) (hp : pI f n = k) (hk : k ≤ 8) :
    Calls Try.prog 17 #[.slice a n c] w fun e w' => e = .returned (.int .i64 (num f n k)) ∧ Below w.heap.size w w' := by
  obtain ⟨hn8, e1, _⟩ := sm_of (f := f) (n := n) (by omega)
  have HM := Lib.hid (show sm f n ≤ k by omega)
  have HC := Lib.hid (refPulses_any a n c f w hS)
  rw [hp] at HC
  have HS := Lib.hid hS.2.2
  clear hS hp e1
  go_enter Try.func17, Try.ntmps17
  go_wp2_with fail
  refine HC.out.mono ?_
  rintro e w1 ⟨rfl, rfl⟩
  clear HC
  go_wp2_with fail
  go_loopw [3, 4, 5] (fun q s i w' => ∃ i' : Nat, i' ≤ n ∧ i = .int .i64 i' ∧ q = .int .i64 (kA f k i') ∧ s = .int .i64 (pre f n k i') ∧ Below w.heap.size w w') (fun _ _ i _ => n - (intOf i).toNat)
  case atStart => exact ⟨0, Nat.zero_le _, rfl, rfl, rfl, Below.refl _ _⟩
  case round =>
    obtain ⟨i, hi, rfl, rfl, rfl, h⟩ := hrel
    have HW := Lib.hid h
    clear h
    by_cases hlt : i < n
    · obtain ⟨b, o, rfl, hc⟩ := HS.out (by omega)
      have hcb := block_lt_of_cell (hc i hlt)
      have C0 := Lib.hid (hc i hlt)
      clear hc
      have hab := kA_ab HM.out hlt
      have hK8 := kA_le f k i
      have HB := Lib.hid (fun j hj => pre_bd (j := j) hn8 hk HM.out hlt hj)
      have HP := Lib.hid (show pre f n k (i + 1) = pre f n k i + S (gV (n - 1 - i) (kA f k i)) (f i + kA f k i).toNat from rfl)
      have HK := Lib.hid (kA_next f k i)
      obtain ⟨x, hx⟩ : ∃ x, f i = x := ⟨_, rfl⟩
      obtain ⟨K, hK⟩ : ∃ K, kA f k i = K := ⟨_, rfl⟩
      obtain ⟨p, hpe⟩ : ∃ p, pre f n k i = p := ⟨_, rfl⟩
      obtain ⟨m, hm⟩ : ∃ m : Nat, n - 1 - i = m := ⟨_, rfl⟩
      have hm' : (n : Int) - i - 1 = m := by omega
      have hm8 : m ≤ 8 := by omega
      rw [hx] at C0 hab
      rw [hx, hK, hpe, hm] at HP
      rw [hK, hx] at HK
      rw [hK] at hab hK8
      rw [hK, hpe, hm] at HB
      rw [hK, hpe]
      clear hx hK hpe hm
      have b0 := HB.out 0 (by omega)
      have hp0 : p ≤ 6975757441 := by omega
      clear b0
      go_wp2_with fail
      go_loopw [4, 6] (fun s l w' => ∃ j : Nat, (j : Int) ≤ x + K ∧ l = .int .i64 ((j : Int) - K) ∧ s = .int .i64 ((p + S (gV m K) j : Nat) : Int) ∧ Below w.heap.size w w') (fun _ l _ => (x - intOf l).toNat)
      case atStart => exact ⟨0, by omega, congrArg (Value.int .i64) (by omega), rfl, HW.out⟩
      case round =>
        obtain ⟨j, hj, rfl, rfl, h⟩ := hrel
        have HW2 := Lib.hid h
        have c0 := (Below.cell h hcb).trans C0.out
        clear h
        have b1 := HB.out j (by omega)
        obtain ⟨q, hq⟩ : ∃ q, S (gV m K) j = q := ⟨_, rfl⟩
        have HQ := Lib.hid hq
        rw [hq] at b1
        rw [hq]
        clear hq
        by_cases hl2 : (j : Int) - K < x
        · have b2 := HB.out (j + 1) (by omega)
          obtain ⟨z, hz⟩ : ∃ z, ((j : Int) - K).natAbs = z := ⟨_, rfl⟩
          have HZ := Lib.hid (show sz ((j : Int) - K) = z by rw [sz_small (by omega) (by omega), hz])
          obtain ⟨t, ht⟩ : ∃ t : Nat, (K : Int) - z = t := ⟨K - z, by omega⟩
          have ht8 : t ≤ 8 := by omega
          have hzK : (K : Int) - z ≤ 8 := by omega
          have HE := Lib.hid (show S (gV m K) (j + 1) = q + V m t from by
            rw [← HQ.out]
            show S (gV m K) j + V m (K - ((j : Int) - K).natAbs) = _
            rw [hz, show K - z = t by omega])
          rw [HE.out] at b2
          have HV := Lib.hid (refCount_as m t wr hm8 ht8)
          obtain ⟨y, hy⟩ : ∃ y, V m t = y := ⟨_, rfl⟩
          rw [hy] at HE b2 HV
          clear hy hz
          go_wp2_with fail
          refine (refSize_as _ _ _ HZ.out).mono ?_
          rintro e w2 ⟨rfl, rfl⟩
          go_wp2_with fail
          refine HV.out.mono ?_
          rintro e w3 ⟨rfl, h3⟩
          have HW3 := Lib.hid (below_trans HW2.out h3 HW2.out.size)
          clear h3 HW2 HV
          go_wp2_with fail
          go_roundw
          case rel => exact ⟨j + 1, by omega, congrArg (Value.int .i64) (by omega), congrArg (Value.int .i64) (by rw [HE.out]; omega), HW3.out⟩
          case measure => simp [intOf]; omega
        · have ej : (x + K).toNat = j := by omega
          rw [ej, HQ.out] at HP
          clear ej
          have HZ := Lib.hid (show sz x = x.natAbs from sz_small (by omega) (by omega))
          go_wp2_with fail
          refine (refSize_as _ _ _ HZ.out).mono ?_
          rintro e w2 ⟨rfl, rfl⟩
          go_wp2_with fail
          go_roundw
          case rel => exact ⟨i + 1, by omega, by go_num, congrArg (Value.int .i64) (by rw [HK.out]; omega), congrArg (Value.int .i64) (by rw [HP.out]; omega), HW2.out⟩
          case measure => simp [intOf]; omega
    · obtain rfl : i = n := by omega
      go_wp2_with fail
      go_ret
      exact ⟨rfl, HW.out⟩
end Go.Proofs.Ytkpbmhppibfpoaa.Ve
