/- VectPlays, where the list is no vector: the walks. -/
import Derived.Test.YtkpbmhppibfpoaaLaw09A
import Derived.Test.YtkpbmhppibfpoaaVeT
import Derived.Test.YtkpbmhppibfpoaaCRefLength
set_option maxRecDepth 100000
set_option linter.unusedVariables false
namespace Go.Proofs.Ytkpbmhppibfpoaa.Ve
open Go.RowKit Go.Proofs.Ytkpbmhppibfpoaa.Row Go.Maps Go.WideMaps

theorem bits_as (n k : Int) (b : Nat) (w : World) (h : bI n k = b) :
    Calls Try.prog 18 #[.int .i64 n, .int .i64 k] w fun e w' => e = .returned (.int .i64 b) ∧ Below w.heap.size w w' := by
  rw [← h]; exact bits_any n k w
theorem refLength_as (x : Int) (b : Nat) (w : World) (h1 : 0 ≤ x) (h2 : x ≤ 9223372036854775807) (h : Lib.bitLen x.natAbs = b) :
    Calls Try.prog 20 #[.int .i64 x] w fun e w' => e = .returned (.int .i64 b) ∧ w = w' := by
  rw [← h]; exact Ref01.length_any x w h1 h2
/-- max of a number and 0. -/
theorem run_max0 (x u : Int) (h : max x 0 = u) (w : World) :
    (Builtin.max_ #[3, 3] 3 #[.int .i64 x, .int .i64 0]).run Try.prog w = .ok (.int .i64 u) w := by
  have e : (if x < 0 then 0 else x) = u := by rw [← h]; split <;> omega
  rw [← e]
  simp [Builtin.max_, Builtin.max2]

set_option maxHeartbeats 800000 in
theorem vectPlays_not_o1 (n k i : Int) (a : Option Addr) (m c : Nat) (f : Nat → Int) (W : World) (hS : Sl .i64 W a m c f) (hf : ∀ i, i < m → -9223372036854775808 ≤ f i ∧ f i ≤ 9223372036854775807) (hm : m ≤ 40) (hp : pI f m = 9) (h : n < 0) :
    Calls Try.prog 6 #[.int .i64 n, .int .i64 k, .int .i64 i, .slice a m c] W fun e w' => e = .returned (.bool true) ∧ Below W.heap.size W w' := by
  have HC := Lib.hid (show cI n k = 0 from cI_out (.inl h))
  have HD := Lib.hid (show bI n k = 0 by unfold bI; rw [HC.out]; decide)
  have HV := Lib.hid (show i < 0 ∨ (cI n k : Int) ≤ i by rw [HC.out]; omega)
  have HS := Lib.hid hS
  have HF := Lib.hid hf
  have HP := Lib.hid hp
  clear hS hf hp
  go_enter Try.func6, Try.ntmps6
  go_wp2_with fail
  refine (awake_yes _).mono ?_
  rintro e w1 ⟨rfl, h1⟩
  have HB1 := Lib.hid h1
  have HS1 := Lib.hid (HS.out.below h1)
  clear h1 HS
  have HQ := Lib.hid (refPulses_any a m c f w1 HS1.out)
  rw [HP.out] at HQ
  go_wp2_with fail
  refine HQ.out.mono ?_
  rintro e w2 ⟨rfl, rfl⟩
  clear HQ
  go_wp2_with fail
  refine (number_no a m c f w1 HS1.out HF.out HP.out).mono ?_
  rintro e w2 ⟨rfl, rfl⟩
  have HQ := Lib.hid (pulses_any a m c f w1 HS1.out HF.out)
  rw [HP.out] at HQ
  go_wp2_with fail
  refine HQ.out.mono ?_
  rintro e w2 ⟨rfl, rfl⟩
  have HBz := Lib.hid HB1.out
  clear HQ HS1 HB1 HF HP
  obtain ⟨wz, hwz⟩ : ∃ wz, w1 = wz := ⟨_, rfl⟩
  rw [hwz] at HBz ⊢
  clear hwz
  go_wp2_with fail
  refine (vector_no n k i _ HV.out).mono ?_
  rintro e wy ⟨rfl, h4⟩
  have HBy := Lib.hid (below_trans HBz.out h4 HBz.out.size)
  clear h4 HBz
  go_wp2_with fail
  refine (count_as _ _ _ _ HC.out).mono ?_
  rintro e wx ⟨rfl, h5⟩
  have HBx := Lib.hid (below_trans HBy.out h5 HBy.out.size)
  clear h5 HBy
  go_wp2_with fail
  refine (bits_as _ _ 0 _ HD.out).mono ?_
  rintro e wv ⟨rfl, h6⟩
  go_wp2_with fail
  go_ret
  exact ⟨rfl, below_trans HBx.out h6 HBx.out.size⟩

set_option maxHeartbeats 800000 in
theorem vectPlays_not_o2 (n k i : Int) (a : Option Addr) (m c : Nat) (f : Nat → Int) (W : World) (hS : Sl .i64 W a m c f) (hf : ∀ i, i < m → -9223372036854775808 ≤ f i ∧ f i ≤ 9223372036854775807) (hm : m ≤ 40) (hp : pI f m = 9) (h0 : 0 ≤ n) (h : 8 < n) :
    Calls Try.prog 6 #[.int .i64 n, .int .i64 k, .int .i64 i, .slice a m c] W fun e w' => e = .returned (.bool true) ∧ Below W.heap.size W w' := by
  have HC := Lib.hid (show cI n k = 0 from cI_out (.inr (.inl h)))
  have HD := Lib.hid (show bI n k = 0 by unfold bI; rw [HC.out]; decide)
  have HV := Lib.hid (show i < 0 ∨ (cI n k : Int) ≤ i by rw [HC.out]; omega)
  have HS := Lib.hid hS
  have HF := Lib.hid hf
  have HP := Lib.hid hp
  clear hS hf hp
  go_enter Try.func6, Try.ntmps6
  go_wp2_with fail
  refine (awake_yes _).mono ?_
  rintro e w1 ⟨rfl, h1⟩
  have HB1 := Lib.hid h1
  have HS1 := Lib.hid (HS.out.below h1)
  clear h1 HS
  have HQ := Lib.hid (refPulses_any a m c f w1 HS1.out)
  rw [HP.out] at HQ
  go_wp2_with fail
  refine HQ.out.mono ?_
  rintro e w2 ⟨rfl, rfl⟩
  clear HQ
  go_wp2_with fail
  refine (number_no a m c f w1 HS1.out HF.out HP.out).mono ?_
  rintro e w2 ⟨rfl, rfl⟩
  have HQ := Lib.hid (pulses_any a m c f w1 HS1.out HF.out)
  rw [HP.out] at HQ
  go_wp2_with fail
  refine HQ.out.mono ?_
  rintro e w2 ⟨rfl, rfl⟩
  have HBz := Lib.hid HB1.out
  clear HQ HS1 HB1 HF HP
  obtain ⟨wz, hwz⟩ : ∃ wz, w1 = wz := ⟨_, rfl⟩
  rw [hwz] at HBz ⊢
  clear hwz
  go_wp2_with fail
  refine (vector_no n k i _ HV.out).mono ?_
  rintro e wy ⟨rfl, h4⟩
  have HBy := Lib.hid (below_trans HBz.out h4 HBz.out.size)
  clear h4 HBz
  go_wp2_with fail
  refine (count_as _ _ _ _ HC.out).mono ?_
  rintro e wx ⟨rfl, h5⟩
  have HBx := Lib.hid (below_trans HBy.out h5 HBy.out.size)
  clear h5 HBy
  go_wp2_with fail
  refine (bits_as _ _ 0 _ HD.out).mono ?_
  rintro e wv ⟨rfl, h6⟩
  go_wp2_with fail
  go_ret
  exact ⟨rfl, below_trans HBx.out h6 HBx.out.size⟩

set_option maxHeartbeats 800000 in
theorem vectPlays_not_o3 (n k i : Int) (a : Option Addr) (m c : Nat) (f : Nat → Int) (W : World) (hS : Sl .i64 W a m c f) (hf : ∀ i, i < m → -9223372036854775808 ≤ f i ∧ f i ≤ 9223372036854775807) (hm : m ≤ 40) (hp : pI f m = 9) (h0 : 0 ≤ n) (h1 : n ≤ 8) (h : k < 0) :
    Calls Try.prog 6 #[.int .i64 n, .int .i64 k, .int .i64 i, .slice a m c] W fun e w' => e = .returned (.bool true) ∧ Below W.heap.size W w' := by
  have HC := Lib.hid (show cI n k = 0 from cI_out (.inr (.inr (.inl h))))
  have HD := Lib.hid (show bI n k = 0 by unfold bI; rw [HC.out]; decide)
  have HV := Lib.hid (show i < 0 ∨ (cI n k : Int) ≤ i by rw [HC.out]; omega)
  have HS := Lib.hid hS
  have HF := Lib.hid hf
  have HP := Lib.hid hp
  clear hS hf hp
  go_enter Try.func6, Try.ntmps6
  go_wp2_with fail
  refine (awake_yes _).mono ?_
  rintro e w1 ⟨rfl, h1⟩
  have HB1 := Lib.hid h1
  have HS1 := Lib.hid (HS.out.below h1)
  clear h1 HS
  have HQ := Lib.hid (refPulses_any a m c f w1 HS1.out)
  rw [HP.out] at HQ
  go_wp2_with fail
  refine HQ.out.mono ?_
  rintro e w2 ⟨rfl, rfl⟩
  clear HQ
  go_wp2_with fail
  refine (number_no a m c f w1 HS1.out HF.out HP.out).mono ?_
  rintro e w2 ⟨rfl, rfl⟩
  have HQ := Lib.hid (pulses_any a m c f w1 HS1.out HF.out)
  rw [HP.out] at HQ
  go_wp2_with fail
  refine HQ.out.mono ?_
  rintro e w2 ⟨rfl, rfl⟩
  have HBz := Lib.hid HB1.out
  clear HQ HS1 HB1 HF HP
  obtain ⟨wz, hwz⟩ : ∃ wz, w1 = wz := ⟨_, rfl⟩
  rw [hwz] at HBz ⊢
  clear hwz
  go_wp2_with fail
  refine (vector_no n k i _ HV.out).mono ?_
  rintro e wy ⟨rfl, h4⟩
  have HBy := Lib.hid (below_trans HBz.out h4 HBz.out.size)
  clear h4 HBz
  go_wp2_with fail
  refine (count_as _ _ _ _ HC.out).mono ?_
  rintro e wx ⟨rfl, h5⟩
  have HBx := Lib.hid (below_trans HBy.out h5 HBy.out.size)
  clear h5 HBy
  go_wp2_with fail
  refine (bits_as _ _ 0 _ HD.out).mono ?_
  rintro e wv ⟨rfl, h6⟩
  go_wp2_with fail
  go_ret
  exact ⟨rfl, below_trans HBx.out h6 HBx.out.size⟩

set_option maxHeartbeats 800000 in
theorem vectPlays_not_o4 (n k i : Int) (a : Option Addr) (m c : Nat) (f : Nat → Int) (W : World) (hS : Sl .i64 W a m c f) (hf : ∀ i, i < m → -9223372036854775808 ≤ f i ∧ f i ≤ 9223372036854775807) (hm : m ≤ 40) (hp : pI f m = 9) (h0 : 0 ≤ n) (h1 : n ≤ 8) (h2 : 0 ≤ k) (h : 8 < k) :
    Calls Try.prog 6 #[.int .i64 n, .int .i64 k, .int .i64 i, .slice a m c] W fun e w' => e = .returned (.bool true) ∧ Below W.heap.size W w' := by
  have HC := Lib.hid (show cI n k = 0 from cI_out (.inr (.inr (.inr h))))
  have HD := Lib.hid (show bI n k = 0 by unfold bI; rw [HC.out]; decide)
  have HV := Lib.hid (show i < 0 ∨ (cI n k : Int) ≤ i by rw [HC.out]; omega)
  have HS := Lib.hid hS
  have HF := Lib.hid hf
  have HP := Lib.hid hp
  clear hS hf hp
  go_enter Try.func6, Try.ntmps6
  go_wp2_with fail
  refine (awake_yes _).mono ?_
  rintro e w1 ⟨rfl, h1⟩
  have HB1 := Lib.hid h1
  have HS1 := Lib.hid (HS.out.below h1)
  clear h1 HS
  have HQ := Lib.hid (refPulses_any a m c f w1 HS1.out)
  rw [HP.out] at HQ
  go_wp2_with fail
  refine HQ.out.mono ?_
  rintro e w2 ⟨rfl, rfl⟩
  clear HQ
  go_wp2_with fail
  refine (number_no a m c f w1 HS1.out HF.out HP.out).mono ?_
  rintro e w2 ⟨rfl, rfl⟩
  have HQ := Lib.hid (pulses_any a m c f w1 HS1.out HF.out)
  rw [HP.out] at HQ
  go_wp2_with fail
  refine HQ.out.mono ?_
  rintro e w2 ⟨rfl, rfl⟩
  have HBz := Lib.hid HB1.out
  clear HQ HS1 HB1 HF HP
  obtain ⟨wz, hwz⟩ : ∃ wz, w1 = wz := ⟨_, rfl⟩
  rw [hwz] at HBz ⊢
  clear hwz
  go_wp2_with fail
  refine (vector_no n k i _ HV.out).mono ?_
  rintro e wy ⟨rfl, h4⟩
  have HBy := Lib.hid (below_trans HBz.out h4 HBz.out.size)
  clear h4 HBz
  go_wp2_with fail
  refine (count_as _ _ _ _ HC.out).mono ?_
  rintro e wx ⟨rfl, h5⟩
  have HBx := Lib.hid (below_trans HBy.out h5 HBy.out.size)
  clear h5 HBy
  go_wp2_with fail
  refine (bits_as _ _ 0 _ HD.out).mono ?_
  rintro e wv ⟨rfl, h6⟩
  go_wp2_with fail
  go_ret
  exact ⟨rfl, below_trans HBx.out h6 HBx.out.size⟩

set_option maxHeartbeats 800000 in
theorem vectPlays_not_i1 (n k i : Int) (a : Option Addr) (m c : Nat) (f : Nat → Int) (W : World) (hS : Sl .i64 W a m c f) (hf : ∀ i, i < m → -9223372036854775808 ≤ f i ∧ f i ≤ 9223372036854775807) (hm : m ≤ 40) (hp : pI f m = 9) (h0 : 0 ≤ n) (h1 : n ≤ 8) (h2 : 0 ≤ k) (h3 : k ≤ 8) (hv : i < 0 ∧ (i < 0 ∨ (cI n k : Int) ≤ i)) :
    Calls Try.prog 6 #[.int .i64 n, .int .i64 k, .int .i64 i, .slice a m c] W fun e w' => e = .returned (.bool true) ∧ Below W.heap.size W w' := by
  obtain ⟨N, rfl⟩ := Int.eq_ofNat_of_zero_le h0
  obtain ⟨K, rfl⟩ := Int.eq_ofNat_of_zero_le h2
  have hN8 : N ≤ 8 := by omega
  have hK8 : K ≤ 8 := by omega
  have hc9 := V_le hN8 hK8
  have HC := Lib.hid (cI_nat hN8 hK8)
  obtain ⟨C, hC⟩ : ∃ C, V N K = C := ⟨_, rfl⟩
  have HVC := Lib.hid hC
  rw [hC] at HC hc9
  obtain ⟨B, hB⟩ : ∃ B, Lib.bitLen (C - 1) = B := ⟨_, rfl⟩
  have HD := Lib.hid (show bI N K = B by unfold bI; rw [HC.out, hB])
  have hmx := run_max0 ((C : Int) - 1) ((C - 1 : Nat) : Int) (by omega)
  obtain ⟨c1, hc1⟩ : ∃ c1, C - 1 = c1 := ⟨_, rfl⟩
  rw [hc1] at hB hmx
  have HL := Lib.hid (show (0 : Int) ≤ (c1 : Int) ∧ (c1 : Int) ≤ 9223372036854775807 ∧ Lib.bitLen (c1 : Int).natAbs = B from ⟨by omega, by omega, by rw [Int.natAbs_natCast]; exact hB⟩)
  rw [HC.out] at hv
  clear hB hc1 hC
  have HV := Lib.hid (show i < 0 ∨ (cI N K : Int) ≤ i from .inl hv.1)
  have hi0 : i < 0 := hv.1
  clear hv
  have HS := Lib.hid hS
  have HF := Lib.hid hf
  have HP := Lib.hid hp
  clear hS hf hp
  go_enter Try.func6, Try.ntmps6
  go_wp2_with fail
  refine (awake_yes _).mono ?_
  rintro e w1 ⟨rfl, h1⟩
  have HB1 := Lib.hid h1
  have HS1 := Lib.hid (HS.out.below h1)
  clear h1 HS
  have HQ := Lib.hid (refPulses_any a m c f w1 HS1.out)
  rw [HP.out] at HQ
  go_wp2_with fail
  refine HQ.out.mono ?_
  rintro e w2 ⟨rfl, rfl⟩
  clear HQ
  go_wp2_with fail
  refine (number_no a m c f w1 HS1.out HF.out HP.out).mono ?_
  rintro e w2 ⟨rfl, rfl⟩
  have HQ := Lib.hid (pulses_any a m c f w1 HS1.out HF.out)
  rw [HP.out] at HQ
  go_wp2_with fail
  refine HQ.out.mono ?_
  rintro e w2 ⟨rfl, rfl⟩
  have HBz := Lib.hid HB1.out
  clear HQ HS1 HB1 HF HP
  obtain ⟨wz, hwz⟩ : ∃ wz, w1 = wz := ⟨_, rfl⟩
  rw [hwz] at HBz ⊢
  clear hwz
  go_wp2_with fail
  refine (vector_no N K i _ HV.out).mono ?_
  rintro e wy ⟨rfl, h4⟩
  have HBy := Lib.hid (below_trans HBz.out h4 HBz.out.size)
  clear h4 HBz
  go_wp2_with fail
  refine (refCount_as N K _ hN8 hK8).mono ?_
  rw [HVC.out]
  rintro e wx ⟨rfl, h5⟩
  have HBx := Lib.hid (below_trans HBy.out h5 HBy.out.size)
  clear h5 HBy
  go_wp2_with fail
  refine (count_as _ _ _ _ HC.out).mono ?_
  rintro e wv ⟨rfl, h6⟩
  have HBv := Lib.hid (below_trans HBx.out h6 HBx.out.size)
  clear h6 HBx
  go_wp2_with fail
  refine (bits_as _ _ _ _ HD.out).mono ?_
  rintro e wu ⟨rfl, h7⟩
  have HBu := Lib.hid (below_trans HBv.out h7 HBv.out.size)
  clear h7 HBv
  go_wp2_with fail
  refine (refLength_as _ B _ HL.out.1 HL.out.2.1 HL.out.2.2).mono ?_
  rintro e wt ⟨rfl, rfl⟩
  go_wp2_with fail
  go_ret
  exact ⟨rfl, HBu.out⟩

set_option maxHeartbeats 800000 in
theorem vectPlays_not_i2 (n k i : Int) (a : Option Addr) (m c : Nat) (f : Nat → Int) (W : World) (hS : Sl .i64 W a m c f) (hf : ∀ i, i < m → -9223372036854775808 ≤ f i ∧ f i ≤ 9223372036854775807) (hm : m ≤ 40) (hp : pI f m = 9) (h0 : 0 ≤ n) (h1 : n ≤ 8) (h2 : 0 ≤ k) (h3 : k ≤ 8) (hi0 : 0 ≤ i) (hv : (cI n k : Int) ≤ i) :
    Calls Try.prog 6 #[.int .i64 n, .int .i64 k, .int .i64 i, .slice a m c] W fun e w' => e = .returned (.bool true) ∧ Below W.heap.size W w' := by
  obtain ⟨N, rfl⟩ := Int.eq_ofNat_of_zero_le h0
  obtain ⟨K, rfl⟩ := Int.eq_ofNat_of_zero_le h2
  have hN8 : N ≤ 8 := by omega
  have hK8 : K ≤ 8 := by omega
  have hc9 := V_le hN8 hK8
  have HC := Lib.hid (cI_nat hN8 hK8)
  obtain ⟨C, hC⟩ : ∃ C, V N K = C := ⟨_, rfl⟩
  have HVC := Lib.hid hC
  rw [hC] at HC hc9
  obtain ⟨B, hB⟩ : ∃ B, Lib.bitLen (C - 1) = B := ⟨_, rfl⟩
  have HD := Lib.hid (show bI N K = B by unfold bI; rw [HC.out, hB])
  have hmx := run_max0 ((C : Int) - 1) ((C - 1 : Nat) : Int) (by omega)
  obtain ⟨c1, hc1⟩ : ∃ c1, C - 1 = c1 := ⟨_, rfl⟩
  rw [hc1] at hB hmx
  have HL := Lib.hid (show (0 : Int) ≤ (c1 : Int) ∧ (c1 : Int) ≤ 9223372036854775807 ∧ Lib.bitLen (c1 : Int).natAbs = B from ⟨by omega, by omega, by rw [Int.natAbs_natCast]; exact hB⟩)
  rw [HC.out] at hv
  clear hB hc1 hC
  have HV := Lib.hid (show i < 0 ∨ (cI N K : Int) ≤ i by rw [HC.out]; exact .inr hv)
  have HS := Lib.hid hS
  have HF := Lib.hid hf
  have HP := Lib.hid hp
  clear hS hf hp
  go_enter Try.func6, Try.ntmps6
  go_wp2_with fail
  refine (awake_yes _).mono ?_
  rintro e w1 ⟨rfl, h1⟩
  have HB1 := Lib.hid h1
  have HS1 := Lib.hid (HS.out.below h1)
  clear h1 HS
  have HQ := Lib.hid (refPulses_any a m c f w1 HS1.out)
  rw [HP.out] at HQ
  go_wp2_with fail
  refine HQ.out.mono ?_
  rintro e w2 ⟨rfl, rfl⟩
  clear HQ
  go_wp2_with fail
  refine (number_no a m c f w1 HS1.out HF.out HP.out).mono ?_
  rintro e w2 ⟨rfl, rfl⟩
  have HQ := Lib.hid (pulses_any a m c f w1 HS1.out HF.out)
  rw [HP.out] at HQ
  go_wp2_with fail
  refine HQ.out.mono ?_
  rintro e w2 ⟨rfl, rfl⟩
  have HBz := Lib.hid HB1.out
  clear HQ HS1 HB1 HF HP
  obtain ⟨wz, hwz⟩ : ∃ wz, w1 = wz := ⟨_, rfl⟩
  rw [hwz] at HBz ⊢
  clear hwz
  go_wp2_with fail
  refine (vector_no N K i _ HV.out).mono ?_
  rintro e wy ⟨rfl, h4⟩
  have HBy := Lib.hid (below_trans HBz.out h4 HBz.out.size)
  clear h4 HBz
  go_wp2_with fail
  refine (refCount_as N K _ hN8 hK8).mono ?_
  rw [HVC.out]
  rintro e wx ⟨rfl, h5⟩
  have HBx := Lib.hid (below_trans HBy.out h5 HBy.out.size)
  clear h5 HBy
  go_wp2_with fail
  refine (count_as _ _ _ _ HC.out).mono ?_
  rintro e wv ⟨rfl, h6⟩
  have HBv := Lib.hid (below_trans HBx.out h6 HBx.out.size)
  clear h6 HBx
  go_wp2_with fail
  refine (bits_as _ _ _ _ HD.out).mono ?_
  rintro e wu ⟨rfl, h7⟩
  have HBu := Lib.hid (below_trans HBv.out h7 HBv.out.size)
  clear h7 HBv
  go_wp2_with fail
  refine (refLength_as _ B _ HL.out.1 HL.out.2.1 HL.out.2.2).mono ?_
  rintro e wt ⟨rfl, rfl⟩
  go_wp2_with fail
  go_ret
  exact ⟨ret_bool (by rw [decide_eq_false (by omega)]; rfl), HBu.out⟩

set_option maxHeartbeats 800000 in
theorem vectPlays_not_i3 (n k i : Int) (a : Option Addr) (m c : Nat) (f : Nat → Int) (W : World) (hS : Sl .i64 W a m c f) (hf : ∀ i, i < m → -9223372036854775808 ≤ f i ∧ f i ≤ 9223372036854775807) (hm : m ≤ 40) (hp : pI f m = 9) (h0 : 0 ≤ n) (h1 : n ≤ 8) (h2 : 0 ≤ k) (h3 : k ≤ 8) (hi0 : 0 ≤ i) (hv : i < (cI n k : Int)) :
    Calls Try.prog 6 #[.int .i64 n, .int .i64 k, .int .i64 i, .slice a m c] W fun e w' => e = .returned (.bool true) ∧ Below W.heap.size W w' := by
  obtain ⟨N, rfl⟩ := Int.eq_ofNat_of_zero_le h0
  obtain ⟨K, rfl⟩ := Int.eq_ofNat_of_zero_le h2
  have hN8 : N ≤ 8 := by omega
  have hK8 : K ≤ 8 := by omega
  have hc9 := V_le hN8 hK8
  have HC := Lib.hid (cI_nat hN8 hK8)
  obtain ⟨C, hC⟩ : ∃ C, V N K = C := ⟨_, rfl⟩
  have HVC := Lib.hid hC
  rw [hC] at HC hc9
  obtain ⟨B, hB⟩ : ∃ B, Lib.bitLen (C - 1) = B := ⟨_, rfl⟩
  have HD := Lib.hid (show bI N K = B by unfold bI; rw [HC.out, hB])
  have hmx := run_max0 ((C : Int) - 1) ((C - 1 : Nat) : Int) (by omega)
  obtain ⟨c1, hc1⟩ : ∃ c1, C - 1 = c1 := ⟨_, rfl⟩
  rw [hc1] at hB hmx
  have HL := Lib.hid (show (0 : Int) ≤ (c1 : Int) ∧ (c1 : Int) ≤ 9223372036854775807 ∧ Lib.bitLen (c1 : Int).natAbs = B from ⟨by omega, by omega, by rw [Int.natAbs_natCast]; exact hB⟩)
  rw [HC.out] at hv
  clear hB hc1 hC
  obtain ⟨I, rfl⟩ := Int.eq_ofNat_of_zero_le hi0
  have hIC : I < C := by omega
  have HI := Lib.hid (show I < V N K by rw [HVC.out]; exact hIC)
  have HS := Lib.hid hS
  have HF := Lib.hid hf
  have HP := Lib.hid hp
  clear hS hf hp
  go_enter Try.func6, Try.ntmps6
  go_wp2_with fail
  refine (awake_yes _).mono ?_
  rintro e w1 ⟨rfl, h1⟩
  have HB1 := Lib.hid h1
  have HS1 := Lib.hid (HS.out.below h1)
  clear h1 HS
  have HQ := Lib.hid (refPulses_any a m c f w1 HS1.out)
  rw [HP.out] at HQ
  go_wp2_with fail
  refine HQ.out.mono ?_
  rintro e w2 ⟨rfl, rfl⟩
  clear HQ
  go_wp2_with fail
  refine (number_no a m c f w1 HS1.out HF.out HP.out).mono ?_
  rintro e w2 ⟨rfl, rfl⟩
  have HQ := Lib.hid (pulses_any a m c f w1 HS1.out HF.out)
  rw [HP.out] at HQ
  go_wp2_with fail
  refine HQ.out.mono ?_
  rintro e w2 ⟨rfl, rfl⟩
  have HBz := Lib.hid HB1.out
  clear HQ HS1 HB1 HF HP
  obtain ⟨wz, hwz⟩ : ∃ wz, w1 = wz := ⟨_, rfl⟩
  rw [hwz] at HBz ⊢
  clear hwz
  go_wp2_with fail
  refine (vector_yes N K I _ hN8 hK8 HI.out).mono ?_
  rintro e wy ⟨y, f1, f2, g, U, rfl, hg, hU, hA, h4⟩
  have HBy := Lib.hid (below_trans HBz.out h4 HBz.out.size)
  clear f1 f2 hg hU hA h4 HBz
  go_wp2_with fail
  refine (refCount_as N K _ hN8 hK8).mono ?_
  rw [HVC.out]
  rintro e wx ⟨rfl, h5⟩
  have HBx := Lib.hid (below_trans HBy.out h5 HBy.out.size)
  clear h5 HBy
  go_wp2_with fail
  refine (count_as _ _ _ _ HC.out).mono ?_
  rintro e wv ⟨rfl, h6⟩
  have HBv := Lib.hid (below_trans HBx.out h6 HBx.out.size)
  clear h6 HBx
  go_wp2_with fail
  refine (bits_as _ _ _ _ HD.out).mono ?_
  rintro e wu ⟨rfl, h7⟩
  have HBu := Lib.hid (below_trans HBv.out h7 HBv.out.size)
  clear h7 HBv
  go_wp2_with fail
  refine (refLength_as _ B _ HL.out.1 HL.out.2.1 HL.out.2.2).mono ?_
  rintro e wt ⟨rfl, rfl⟩
  go_wp2_with fail
  go_ret
  exact ⟨rfl, HBu.out⟩

theorem vectPlays_not (n k i : Int) (a : Option Addr) (m c : Nat) (f : Nat → Int) (W : World) (hS : Sl .i64 W a m c f) (hf : ∀ i, i < m → -9223372036854775808 ≤ f i ∧ f i ≤ 9223372036854775807) (hm : m ≤ 40) (hp : pI f m = 9) :
    Calls Try.prog 6 #[.int .i64 n, .int .i64 k, .int .i64 i, .slice a m c] W fun e w' => e = .returned (.bool true) ∧ Below W.heap.size W w' := by
  by_cases o1 : n < 0
  · exact vectPlays_not_o1 n k i a m c f W hS hf hm hp o1
  by_cases o2 : 8 < n
  · exact vectPlays_not_o2 n k i a m c f W hS hf hm hp (by omega) o2
  by_cases o3 : k < 0
  · exact vectPlays_not_o3 n k i a m c f W hS hf hm hp (by omega) (by omega) o3
  by_cases o4 : 8 < k
  · exact vectPlays_not_o4 n k i a m c f W hS hf hm hp (by omega) (by omega) (by omega) o4
  by_cases i1 : i < 0
  · exact vectPlays_not_i1 n k i a m c f W hS hf hm hp (by omega) (by omega) (by omega) (by omega) ⟨i1, .inl i1⟩
  by_cases i2 : (cI n k : Int) ≤ i
  · exact vectPlays_not_i2 n k i a m c f W hS hf hm hp (by omega) (by omega) (by omega) (by omega) (by omega) i2
  · exact vectPlays_not_i3 n k i a m c f W hS hf hm hp (by omega) (by omega) (by omega) (by omega) (by omega) (by omega)
end Go.Proofs.Ytkpbmhppibfpoaa.Ve
