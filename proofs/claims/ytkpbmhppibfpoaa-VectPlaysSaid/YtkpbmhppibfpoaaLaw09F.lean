/- VectPlays, where the list is a vector: the walks. -/
import Derived.Test.YtkpbmhppibfpoaaLaw09E
set_option maxRecDepth 100000
set_option linter.unusedVariables false
namespace Go.Proofs.Ytkpbmhppibfpoaa.Ve
open Go.RowKit Go.Proofs.Ytkpbmhppibfpoaa.Row Go.Maps Go.WideMaps

set_option maxHeartbeats 800000 in
theorem vectPlays_yes_o1 (n k i : Int) (a : Option Addr) (m c : Nat) (f : Nat → Int) (W : World) (hS : Sl .i64 W a m c f) (hf : ∀ i, i < m → -9223372036854775808 ≤ f i ∧ f i ≤ 9223372036854775807) (hm : m ≤ 40) (q : Nat) (hp : pI f m = q) (hq8 : q ≤ 8) (hq9 : (q : Int) < 9) (h : n < 0) :
    Calls Try.prog 6 #[.int .i64 n, .int .i64 k, .int .i64 i, .slice a m c] W fun e w' => e = .returned (.bool true) ∧ Below W.heap.size W w' := by
  have HC := Lib.hid (show cI n k = 0 from cI_out (.inl h))
  have HD := Lib.hid (show bI n k = 0 by unfold bI; rw [HC.out]; decide)
  have HV := Lib.hid (show i < 0 ∨ (cI n k : Int) ≤ i by rw [HC.out]; omega)
  have HS := Lib.hid hS
  have HF := Lib.hid hf
  have HP := Lib.hid hp
  clear hS hf hp
  go_enter Try.func6, Try.ntmps6
  go_wp2_with fail
  refine (awake_yes _).mono ?_
  rintro e w1 ⟨rfl, h1⟩
  have HB1 := Lib.hid h1
  have HS1 := Lib.hid (HS.out.below h1)
  clear h1 HS
  have HQ := Lib.hid (refPulses_any a m c f w1 HS1.out)
  rw [HP.out] at HQ
  go_wp2_with fail
  refine HQ.out.mono ?_
  rintro e w2 ⟨rfl, rfl⟩
  clear HQ
  go_wp2_with fail
  refine (number_yes a m c q f w1 HS1.out HF.out HP.out hq8).mono ?_
  rintro e w2 ⟨rfl, h2⟩
  have HB2 := Lib.hid (below_trans HB1.out h2 HB1.out.size)
  have HS2 := Lib.hid (HS1.out.below h2)
  have HQ := Lib.hid (pulses_any a m c f w2 HS2.out HF.out)
  rw [HP.out] at HQ
  have HN := Lib.hid (refNumber_yes a m c q f w2 HS2.out HP.out hq8)
  obtain ⟨X, hX⟩ : ∃ X, num f m q = X := ⟨_, rfl⟩
  rw [hX] at HN
  rw [hX]
  clear h2 HB1 HS1 hX
  go_wp2_with fail
  refine HQ.out.mono ?_
  rintro e w3 ⟨rfl, rfl⟩
  clear HQ
  go_wp2_with fail
  refine HN.out.mono ?_
  rintro e wz ⟨rfl, h3⟩
  have HBz := Lib.hid (below_trans HB2.out h3 HB2.out.size)
  clear h3 HB2 HS2 HF HP HN
  go_wp2_with fail
  refine (vector_no n k i _ HV.out).mono ?_
  rintro e wy ⟨rfl, h4⟩
  have HBy := Lib.hid (below_trans HBz.out h4 HBz.out.size)
  clear h4 HBz
  go_wp2_with fail
  refine (count_as _ _ _ _ HC.out).mono ?_
  rintro e wx ⟨rfl, h5⟩
  have HBx := Lib.hid (below_trans HBy.out h5 HBy.out.size)
  clear h5 HBy
  go_wp2_with fail
  refine (bits_as _ _ 0 _ HD.out).mono ?_
  rintro e wv ⟨rfl, h6⟩
  go_wp2_with fail
  go_ret
  exact ⟨rfl, below_trans HBx.out h6 HBx.out.size⟩

set_option maxHeartbeats 800000 in
theorem vectPlays_yes_o2 (n k i : Int) (a : Option Addr) (m c : Nat) (f : Nat → Int) (W : World) (hS : Sl .i64 W a m c f) (hf : ∀ i, i < m → -9223372036854775808 ≤ f i ∧ f i ≤ 9223372036854775807) (hm : m ≤ 40) (q : Nat) (hp : pI f m = q) (hq8 : q ≤ 8) (hq9 : (q : Int) < 9) (h0 : 0 ≤ n) (h : 8 < n) :
    Calls Try.prog 6 #[.int .i64 n, .int .i64 k, .int .i64 i, .slice a m c] W fun e w' => e = .returned (.bool true) ∧ Below W.heap.size W w' := by
  have HC := Lib.hid (show cI n k = 0 from cI_out (.inr (.inl h)))
  have HD := Lib.hid (show bI n k = 0 by unfold bI; rw [HC.out]; decide)
  have HV := Lib.hid (show i < 0 ∨ (cI n k : Int) ≤ i by rw [HC.out]; omega)
  have HS := Lib.hid hS
  have HF := Lib.hid hf
  have HP := Lib.hid hp
  clear hS hf hp
  go_enter Try.func6, Try.ntmps6
  go_wp2_with fail
  refine (awake_yes _).mono ?_
  rintro e w1 ⟨rfl, h1⟩
  have HB1 := Lib.hid h1
  have HS1 := Lib.hid (HS.out.below h1)
  clear h1 HS
  have HQ := Lib.hid (refPulses_any a m c f w1 HS1.out)
  rw [HP.out] at HQ
  go_wp2_with fail
  refine HQ.out.mono ?_
  rintro e w2 ⟨rfl, rfl⟩
  clear HQ
  go_wp2_with fail
  refine (number_yes a m c q f w1 HS1.out HF.out HP.out hq8).mono ?_
  rintro e w2 ⟨rfl, h2⟩
  have HB2 := Lib.hid (below_trans HB1.out h2 HB1.out.size)
  have HS2 := Lib.hid (HS1.out.below h2)
  have HQ := Lib.hid (pulses_any a m c f w2 HS2.out HF.out)
  rw [HP.out] at HQ
  have HN := Lib.hid (refNumber_yes a m c q f w2 HS2.out HP.out hq8)
  obtain ⟨X, hX⟩ : ∃ X, num f m q = X := ⟨_, rfl⟩
  rw [hX] at HN
  rw [hX]
  clear h2 HB1 HS1 hX
  go_wp2_with fail
  refine HQ.out.mono ?_
  rintro e w3 ⟨rfl, rfl⟩
  clear HQ
  go_wp2_with fail
  refine HN.out.mono ?_
  rintro e wz ⟨rfl, h3⟩
  have HBz := Lib.hid (below_trans HB2.out h3 HB2.out.size)
  clear h3 HB2 HS2 HF HP HN
  go_wp2_with fail
  refine (vector_no n k i _ HV.out).mono ?_
  rintro e wy ⟨rfl, h4⟩
  have HBy := Lib.hid (below_trans HBz.out h4 HBz.out.size)
  clear h4 HBz
  go_wp2_with fail
  refine (count_as _ _ _ _ HC.out).mono ?_
  rintro e wx ⟨rfl, h5⟩
  have HBx := Lib.hid (below_trans HBy.out h5 HBy.out.size)
  clear h5 HBy
  go_wp2_with fail
  refine (bits_as _ _ 0 _ HD.out).mono ?_
  rintro e wv ⟨rfl, h6⟩
  go_wp2_with fail
  go_ret
  exact ⟨rfl, below_trans HBx.out h6 HBx.out.size⟩

set_option maxHeartbeats 800000 in
theorem vectPlays_yes_o3 (n k i : Int) (a : Option Addr) (m c : Nat) (f : Nat → Int) (W : World) (hS : Sl .i64 W a m c f) (hf : ∀ i, i < m → -9223372036854775808 ≤ f i ∧ f i ≤ 9223372036854775807) (hm : m ≤ 40) (q : Nat) (hp : pI f m = q) (hq8 : q ≤ 8) (hq9 : (q : Int) < 9) (h0 : 0 ≤ n) (h1 : n ≤ 8) (h : k < 0) :
    Calls Try.prog 6 #[.int .i64 n, .int .i64 k, .int .i64 i, .slice a m c] W fun e w' => e = .returned (.bool true) ∧ Below W.heap.size W w' := by
  have HC := Lib.hid (show cI n k = 0 from cI_out (.inr (.inr (.inl h))))
  have HD := Lib.hid (show bI n k = 0 by unfold bI; rw [HC.out]; decide)
  have HV := Lib.hid (show i < 0 ∨ (cI n k : Int) ≤ i by rw [HC.out]; omega)
  have HS := Lib.hid hS
  have HF := Lib.hid hf
  have HP := Lib.hid hp
  clear hS hf hp
  go_enter Try.func6, Try.ntmps6
  go_wp2_with fail
  refine (awake_yes _).mono ?_
  rintro e w1 ⟨rfl, h1⟩
  have HB1 := Lib.hid h1
  have HS1 := Lib.hid (HS.out.below h1)
  clear h1 HS
  have HQ := Lib.hid (refPulses_any a m c f w1 HS1.out)
  rw [HP.out] at HQ
  go_wp2_with fail
  refine HQ.out.mono ?_
  rintro e w2 ⟨rfl, rfl⟩
  clear HQ
  go_wp2_with fail
  refine (number_yes a m c q f w1 HS1.out HF.out HP.out hq8).mono ?_
  rintro e w2 ⟨rfl, h2⟩
  have HB2 := Lib.hid (below_trans HB1.out h2 HB1.out.size)
  have HS2 := Lib.hid (HS1.out.below h2)
  have HQ := Lib.hid (pulses_any a m c f w2 HS2.out HF.out)
  rw [HP.out] at HQ
  have HN := Lib.hid (refNumber_yes a m c q f w2 HS2.out HP.out hq8)
  obtain ⟨X, hX⟩ : ∃ X, num f m q = X := ⟨_, rfl⟩
  rw [hX] at HN
  rw [hX]
  clear h2 HB1 HS1 hX
  go_wp2_with fail
  refine HQ.out.mono ?_
  rintro e w3 ⟨rfl, rfl⟩
  clear HQ
  go_wp2_with fail
  refine HN.out.mono ?_
  rintro e wz ⟨rfl, h3⟩
  have HBz := Lib.hid (below_trans HB2.out h3 HB2.out.size)
  clear h3 HB2 HS2 HF HP HN
  go_wp2_with fail
  refine (vector_no n k i _ HV.out).mono ?_
  rintro e wy ⟨rfl, h4⟩
  have HBy := Lib.hid (below_trans HBz.out h4 HBz.out.size)
  clear h4 HBz
  go_wp2_with fail
  refine (count_as _ _ _ _ HC.out).mono ?_
  rintro e wx ⟨rfl, h5⟩
  have HBx := Lib.hid (below_trans HBy.out h5 HBy.out.size)
  clear h5 HBy
  go_wp2_with fail
  refine (bits_as _ _ 0 _ HD.out).mono ?_
  rintro e wv ⟨rfl, h6⟩
  go_wp2_with fail
  go_ret
  exact ⟨rfl, below_trans HBx.out h6 HBx.out.size⟩

set_option maxHeartbeats 800000 in
theorem vectPlays_yes_o4 (n k i : Int) (a : Option Addr) (m c : Nat) (f : Nat → Int) (W : World) (hS : Sl .i64 W a m c f) (hf : ∀ i, i < m → -9223372036854775808 ≤ f i ∧ f i ≤ 9223372036854775807) (hm : m ≤ 40) (q : Nat) (hp : pI f m = q) (hq8 : q ≤ 8) (hq9 : (q : Int) < 9) (h0 : 0 ≤ n) (h1 : n ≤ 8) (h2 : 0 ≤ k) (h : 8 < k) :
    Calls Try.prog 6 #[.int .i64 n, .int .i64 k, .int .i64 i, .slice a m c] W fun e w' => e = .returned (.bool true) ∧ Below W.heap.size W w' := by
  have HC := Lib.hid (show cI n k = 0 from cI_out (.inr (.inr (.inr h))))
  have HD := Lib.hid (show bI n k = 0 by unfold bI; rw [HC.out]; decide)
  have HV := Lib.hid (show i < 0 ∨ (cI n k : Int) ≤ i by rw [HC.out]; omega)
  have HS := Lib.hid hS
  have HF := Lib.hid hf
  have HP := Lib.hid hp
  clear hS hf hp
  go_enter Try.func6, Try.ntmps6
  go_wp2_with fail
  refine (awake_yes _).mono ?_
  rintro e w1 ⟨rfl, h1⟩
  have HB1 := Lib.hid h1
  have HS1 := Lib.hid (HS.out.below h1)
  clear h1 HS
  have HQ := Lib.hid (refPulses_any a m c f w1 HS1.out)
  rw [HP.out] at HQ
  go_wp2_with fail
  refine HQ.out.mono ?_
  rintro e w2 ⟨rfl, rfl⟩
  clear HQ
  go_wp2_with fail
  refine (number_yes a m c q f w1 HS1.out HF.out HP.out hq8).mono ?_
  rintro e w2 ⟨rfl, h2⟩
  have HB2 := Lib.hid (below_trans HB1.out h2 HB1.out.size)
  have HS2 := Lib.hid (HS1.out.below h2)
  have HQ := Lib.hid (pulses_any a m c f w2 HS2.out HF.out)
  rw [HP.out] at HQ
  have HN := Lib.hid (refNumber_yes a m c q f w2 HS2.out HP.out hq8)
  obtain ⟨X, hX⟩ : ∃ X, num f m q = X := ⟨_, rfl⟩
  rw [hX] at HN
  rw [hX]
  clear h2 HB1 HS1 hX
  go_wp2_with fail
  refine HQ.out.mono ?_
  rintro e w3 ⟨rfl, rfl⟩
  clear HQ
  go_wp2_with fail
  refine HN.out.mono ?_
  rintro e wz ⟨rfl, h3⟩
  have HBz := Lib.hid (below_trans HB2.out h3 HB2.out.size)
  clear h3 HB2 HS2 HF HP HN
  go_wp2_with fail
  refine (vector_no n k i _ HV.out).mono ?_
  rintro e wy ⟨rfl, h4⟩
  have HBy := Lib.hid (below_trans HBz.out h4 HBz.out.size)
  clear h4 HBz
  go_wp2_with fail
  refine (count_as _ _ _ _ HC.out).mono ?_
  rintro e wx ⟨rfl, h5⟩
  have HBx := Lib.hid (below_trans HBy.out h5 HBy.out.size)
  clear h5 HBy
  go_wp2_with fail
  refine (bits_as _ _ 0 _ HD.out).mono ?_
  rintro e wv ⟨rfl, h6⟩
  go_wp2_with fail
  go_ret
  exact ⟨rfl, below_trans HBx.out h6 HBx.out.size⟩

set_option maxHeartbeats 800000 in
theorem vectPlays_yes_i1 (n k i : Int) (a : Option Addr) (m c : Nat) (f : Nat → Int) (W : World) (hS : Sl .i64 W a m c f) (hf : ∀ i, i < m → -9223372036854775808 ≤ f i ∧ f i ≤ 9223372036854775807) (hm : m ≤ 40) (q : Nat) (hp : pI f m = q) (hq8 : q ≤ 8) (hq9 : (q : Int) < 9) (h0 : 0 ≤ n) (h1 : n ≤ 8) (h2 : 0 ≤ k) (h3 : k ≤ 8) (hv : i < 0 ∧ (i < 0 ∨ (cI n k : Int) ≤ i)) :
    Calls Try.prog 6 #[.int .i64 n, .int .i64 k, .int .i64 i, .slice a m c] W fun e w' => e = .returned (.bool true) ∧ Below W.heap.size W w' := by
  obtain ⟨N, rfl⟩ := Int.eq_ofNat_of_zero_le h0
  obtain ⟨K, rfl⟩ := Int.eq_ofNat_of_zero_le h2
  have hN8 : N ≤ 8 := by omega
  have hK8 : K ≤ 8 := by omega
  have hc9 := V_le hN8 hK8
  have HC := Lib.hid (cI_nat hN8 hK8)
  obtain ⟨C, hC⟩ : ∃ C, V N K = C := ⟨_, rfl⟩
  have HVC := Lib.hid hC
  rw [hC] at HC hc9
  obtain ⟨B, hB⟩ : ∃ B, Lib.bitLen (C - 1) = B := ⟨_, rfl⟩
  have HD := Lib.hid (show bI N K = B by unfold bI; rw [HC.out, hB])
  have hmx := run_max0 ((C : Int) - 1) ((C - 1 : Nat) : Int) (by omega)
  obtain ⟨c1, hc1⟩ : ∃ c1, C - 1 = c1 := ⟨_, rfl⟩
  rw [hc1] at hB hmx
  have HL := Lib.hid (show (0 : Int) ≤ (c1 : Int) ∧ (c1 : Int) ≤ 9223372036854775807 ∧ Lib.bitLen (c1 : Int).natAbs = B from ⟨by omega, by omega, by rw [Int.natAbs_natCast]; exact hB⟩)
  rw [HC.out] at hv
  clear hB hc1 hC
  have HV := Lib.hid (show i < 0 ∨ (cI N K : Int) ≤ i from .inl hv.1)
  have hi0 : i < 0 := hv.1
  clear hv
  have HS := Lib.hid hS
  have HF := Lib.hid hf
  have HP := Lib.hid hp
  clear hS hf hp
  go_enter Try.func6, Try.ntmps6
  go_wp2_with fail
  refine (awake_yes _).mono ?_
  rintro e w1 ⟨rfl, h1⟩
  have HB1 := Lib.hid h1
  have HS1 := Lib.hid (HS.out.below h1)
  clear h1 HS
  have HQ := Lib.hid (refPulses_any a m c f w1 HS1.out)
  rw [HP.out] at HQ
  go_wp2_with fail
  refine HQ.out.mono ?_
  rintro e w2 ⟨rfl, rfl⟩
  clear HQ
  go_wp2_with fail
  refine (number_yes a m c q f w1 HS1.out HF.out HP.out hq8).mono ?_
  rintro e w2 ⟨rfl, h2⟩
  have HB2 := Lib.hid (below_trans HB1.out h2 HB1.out.size)
  have HS2 := Lib.hid (HS1.out.below h2)
  have HQ := Lib.hid (pulses_any a m c f w2 HS2.out HF.out)
  rw [HP.out] at HQ
  have HN := Lib.hid (refNumber_yes a m c q f w2 HS2.out HP.out hq8)
  obtain ⟨X, hX⟩ : ∃ X, num f m q = X := ⟨_, rfl⟩
  rw [hX] at HN
  rw [hX]
  clear h2 HB1 HS1 hX
  go_wp2_with fail
  refine HQ.out.mono ?_
  rintro e w3 ⟨rfl, rfl⟩
  clear HQ
  go_wp2_with fail
  refine HN.out.mono ?_
  rintro e wz ⟨rfl, h3⟩
  have HBz := Lib.hid (below_trans HB2.out h3 HB2.out.size)
  clear h3 HB2 HS2 HF HP HN
  go_wp2_with fail
  refine (vector_no N K i _ HV.out).mono ?_
  rintro e wy ⟨rfl, h4⟩
  have HBy := Lib.hid (below_trans HBz.out h4 HBz.out.size)
  clear h4 HBz
  go_wp2_with fail
  refine (refCount_as N K _ hN8 hK8).mono ?_
  rw [HVC.out]
  rintro e wx ⟨rfl, h5⟩
  have HBx := Lib.hid (below_trans HBy.out h5 HBy.out.size)
  clear h5 HBy
  go_wp2_with fail
  refine (count_as _ _ _ _ HC.out).mono ?_
  rintro e wv ⟨rfl, h6⟩
  have HBv := Lib.hid (below_trans HBx.out h6 HBx.out.size)
  clear h6 HBx
  go_wp2_with fail
  refine (bits_as _ _ _ _ HD.out).mono ?_
  rintro e wu ⟨rfl, h7⟩
  have HBu := Lib.hid (below_trans HBv.out h7 HBv.out.size)
  clear h7 HBv
  go_wp2_with fail
  refine (refLength_as _ B _ HL.out.1 HL.out.2.1 HL.out.2.2).mono ?_
  rintro e wt ⟨rfl, rfl⟩
  go_wp2_with fail
  go_ret
  exact ⟨rfl, HBu.out⟩

set_option maxHeartbeats 800000 in
theorem vectPlays_yes_i2 (n k i : Int) (a : Option Addr) (m c : Nat) (f : Nat → Int) (W : World) (hS : Sl .i64 W a m c f) (hf : ∀ i, i < m → -9223372036854775808 ≤ f i ∧ f i ≤ 9223372036854775807) (hm : m ≤ 40) (q : Nat) (hp : pI f m = q) (hq8 : q ≤ 8) (hq9 : (q : Int) < 9) (h0 : 0 ≤ n) (h1 : n ≤ 8) (h2 : 0 ≤ k) (h3 : k ≤ 8) (hi0 : 0 ≤ i) (hv : (cI n k : Int) ≤ i) :
    Calls Try.prog 6 #[.int .i64 n, .int .i64 k, .int .i64 i, .slice a m c] W fun e w' => e = .returned (.bool true) ∧ Below W.heap.size W w' := by
  obtain ⟨N, rfl⟩ := Int.eq_ofNat_of_zero_le h0
  obtain ⟨K, rfl⟩ := Int.eq_ofNat_of_zero_le h2
  have hN8 : N ≤ 8 := by omega
  have hK8 : K ≤ 8 := by omega
  have hc9 := V_le hN8 hK8
  have HC := Lib.hid (cI_nat hN8 hK8)
  obtain ⟨C, hC⟩ : ∃ C, V N K = C := ⟨_, rfl⟩
  have HVC := Lib.hid hC
  rw [hC] at HC hc9
  obtain ⟨B, hB⟩ : ∃ B, Lib.bitLen (C - 1) = B := ⟨_, rfl⟩
  have HD := Lib.hid (show bI N K = B by unfold bI; rw [HC.out, hB])
  have hmx := run_max0 ((C : Int) - 1) ((C - 1 : Nat) : Int) (by omega)
  obtain ⟨c1, hc1⟩ : ∃ c1, C - 1 = c1 := ⟨_, rfl⟩
  rw [hc1] at hB hmx
  have HL := Lib.hid (show (0 : Int) ≤ (c1 : Int) ∧ (c1 : Int) ≤ 9223372036854775807 ∧ Lib.bitLen (c1 : Int).natAbs = B from ⟨by omega, by omega, by rw [Int.natAbs_natCast]; exact hB⟩)
  rw [HC.out] at hv
  clear hB hc1 hC
  have HV := Lib.hid (show i < 0 ∨ (cI N K : Int) ≤ i by rw [HC.out]; exact .inr hv)
  have HS := Lib.hid hS
  have HF := Lib.hid hf
  have HP := Lib.hid hp
  clear hS hf hp
  go_enter Try.func6, Try.ntmps6
  go_wp2_with fail
  refine (awake_yes _).mono ?_
  rintro e w1 ⟨rfl, h1⟩
  have HB1 := Lib.hid h1
  have HS1 := Lib.hid (HS.out.below h1)
  clear h1 HS
  have HQ := Lib.hid (refPulses_any a m c f w1 HS1.out)
  rw [HP.out] at HQ
  go_wp2_with fail
  refine HQ.out.mono ?_
  rintro e w2 ⟨rfl, rfl⟩
  clear HQ
  go_wp2_with fail
  refine (number_yes a m c q f w1 HS1.out HF.out HP.out hq8).mono ?_
  rintro e w2 ⟨rfl, h2⟩
  have HB2 := Lib.hid (below_trans HB1.out h2 HB1.out.size)
  have HS2 := Lib.hid (HS1.out.below h2)
  have HQ := Lib.hid (pulses_any a m c f w2 HS2.out HF.out)
  rw [HP.out] at HQ
  have HN := Lib.hid (refNumber_yes a m c q f w2 HS2.out HP.out hq8)
  obtain ⟨X, hX⟩ : ∃ X, num f m q = X := ⟨_, rfl⟩
  rw [hX] at HN
  rw [hX]
  clear h2 HB1 HS1 hX
  go_wp2_with fail
  refine HQ.out.mono ?_
  rintro e w3 ⟨rfl, rfl⟩
  clear HQ
  go_wp2_with fail
  refine HN.out.mono ?_
  rintro e wz ⟨rfl, h3⟩
  have HBz := Lib.hid (below_trans HB2.out h3 HB2.out.size)
  clear h3 HB2 HS2 HF HP HN
  go_wp2_with fail
  refine (vector_no N K i _ HV.out).mono ?_
  rintro e wy ⟨rfl, h4⟩
  have HBy := Lib.hid (below_trans HBz.out h4 HBz.out.size)
  clear h4 HBz
  go_wp2_with fail
  refine (refCount_as N K _ hN8 hK8).mono ?_
  rw [HVC.out]
  rintro e wx ⟨rfl, h5⟩
  have HBx := Lib.hid (below_trans HBy.out h5 HBy.out.size)
  clear h5 HBy
  go_wp2_with fail
  refine (count_as _ _ _ _ HC.out).mono ?_
  rintro e wv ⟨rfl, h6⟩
  have HBv := Lib.hid (below_trans HBx.out h6 HBx.out.size)
  clear h6 HBx
  go_wp2_with fail
  refine (bits_as _ _ _ _ HD.out).mono ?_
  rintro e wu ⟨rfl, h7⟩
  have HBu := Lib.hid (below_trans HBv.out h7 HBv.out.size)
  clear h7 HBv
  go_wp2_with fail
  refine (refLength_as _ B _ HL.out.1 HL.out.2.1 HL.out.2.2).mono ?_
  rintro e wt ⟨rfl, rfl⟩
  go_wp2_with fail
  go_ret
  exact ⟨ret_bool (by rw [decide_eq_false (by omega)]; rfl), HBu.out⟩

set_option maxHeartbeats 800000 in
theorem vectPlays_yes_i3 (n k i : Int) (a : Option Addr) (m c : Nat) (f : Nat → Int) (W : World) (hS : Sl .i64 W a m c f) (hf : ∀ i, i < m → -9223372036854775808 ≤ f i ∧ f i ≤ 9223372036854775807) (hm : m ≤ 40) (q : Nat) (hp : pI f m = q) (hq8 : q ≤ 8) (hq9 : (q : Int) < 9) (h0 : 0 ≤ n) (h1 : n ≤ 8) (h2 : 0 ≤ k) (h3 : k ≤ 8) (hi0 : 0 ≤ i) (hv : i < (cI n k : Int)) :
    Calls Try.prog 6 #[.int .i64 n, .int .i64 k, .int .i64 i, .slice a m c] W fun e w' => e = .returned (.bool true) ∧ Below W.heap.size W w' := by
  obtain ⟨N, rfl⟩ := Int.eq_ofNat_of_zero_le h0
  obtain ⟨K, rfl⟩ := Int.eq_ofNat_of_zero_le h2
  have hN8 : N ≤ 8 := by omega
  have hK8 : K ≤ 8 := by omega
  have hc9 := V_le hN8 hK8
  have HC := Lib.hid (cI_nat hN8 hK8)
  obtain ⟨C, hC⟩ : ∃ C, V N K = C := ⟨_, rfl⟩
  have HVC := Lib.hid hC
  rw [hC] at HC hc9
  obtain ⟨B, hB⟩ : ∃ B, Lib.bitLen (C - 1) = B := ⟨_, rfl⟩
  have HD := Lib.hid (show bI N K = B by unfold bI; rw [HC.out, hB])
  have hmx := run_max0 ((C : Int) - 1) ((C - 1 : Nat) : Int) (by omega)
  obtain ⟨c1, hc1⟩ : ∃ c1, C - 1 = c1 := ⟨_, rfl⟩
  rw [hc1] at hB hmx
  have HL := Lib.hid (show (0 : Int) ≤ (c1 : Int) ∧ (c1 : Int) ≤ 9223372036854775807 ∧ Lib.bitLen (c1 : Int).natAbs = B from ⟨by omega, by omega, by rw [Int.natAbs_natCast]; exact hB⟩)
  rw [HC.out] at hv
  clear hB hc1 hC
  obtain ⟨I, rfl⟩ := Int.eq_ofNat_of_zero_le hi0
  have hIC : I < C := by omega
  have HI := Lib.hid (show I < V N K by rw [HVC.out]; exact hIC)
  have HS := Lib.hid hS
  have HF := Lib.hid hf
  have HP := Lib.hid hp
  clear hS hf hp
  go_enter Try.func6, Try.ntmps6
  go_wp2_with fail
  refine (awake_yes _).mono ?_
  rintro e w1 ⟨rfl, h1⟩
  have HB1 := Lib.hid h1
  have HS1 := Lib.hid (HS.out.below h1)
  clear h1 HS
  have HQ := Lib.hid (refPulses_any a m c f w1 HS1.out)
  rw [HP.out] at HQ
  go_wp2_with fail
  refine HQ.out.mono ?_
  rintro e w2 ⟨rfl, rfl⟩
  clear HQ
  go_wp2_with fail
  refine (number_yes a m c q f w1 HS1.out HF.out HP.out hq8).mono ?_
  rintro e w2 ⟨rfl, h2⟩
  have HB2 := Lib.hid (below_trans HB1.out h2 HB1.out.size)
  have HS2 := Lib.hid (HS1.out.below h2)
  have HQ := Lib.hid (pulses_any a m c f w2 HS2.out HF.out)
  rw [HP.out] at HQ
  have HN := Lib.hid (refNumber_yes a m c q f w2 HS2.out HP.out hq8)
  obtain ⟨X, hX⟩ : ∃ X, num f m q = X := ⟨_, rfl⟩
  rw [hX] at HN
  rw [hX]
  clear h2 HB1 HS1 hX
  go_wp2_with fail
  refine HQ.out.mono ?_
  rintro e w3 ⟨rfl, rfl⟩
  clear HQ
  go_wp2_with fail
  refine HN.out.mono ?_
  rintro e wz ⟨rfl, h3⟩
  have HBz := Lib.hid (below_trans HB2.out h3 HB2.out.size)
  clear h3 HB2 HS2 HF HP HN
  go_wp2_with fail
  refine (vector_yes N K I _ hN8 hK8 HI.out).mono ?_
  rintro e wy ⟨y, f1, f2, g, U, rfl, hg, hU, hA, h4⟩
  have HBy := Lib.hid (below_trans HBz.out h4 HBz.out.size)
  clear f1 f2 hg hU hA h4 HBz
  go_wp2_with fail
  refine (refCount_as N K _ hN8 hK8).mono ?_
  rw [HVC.out]
  rintro e wx ⟨rfl, h5⟩
  have HBx := Lib.hid (below_trans HBy.out h5 HBy.out.size)
  clear h5 HBy
  go_wp2_with fail
  refine (count_as _ _ _ _ HC.out).mono ?_
  rintro e wv ⟨rfl, h6⟩
  have HBv := Lib.hid (below_trans HBx.out h6 HBx.out.size)
  clear h6 HBx
  go_wp2_with fail
  refine (bits_as _ _ _ _ HD.out).mono ?_
  rintro e wu ⟨rfl, h7⟩
  have HBu := Lib.hid (below_trans HBv.out h7 HBv.out.size)
  clear h7 HBv
  go_wp2_with fail
  refine (refLength_as _ B _ HL.out.1 HL.out.2.1 HL.out.2.2).mono ?_
  rintro e wt ⟨rfl, rfl⟩
  go_wp2_with fail
  go_ret
  exact ⟨rfl, HBu.out⟩

theorem vectPlays_yes (n k i : Int) (a : Option Addr) (m c : Nat) (f : Nat → Int) (W : World) (hS : Sl .i64 W a m c f) (hf : ∀ i, i < m → -9223372036854775808 ≤ f i ∧ f i ≤ 9223372036854775807) (hm : m ≤ 40) (q : Nat) (hp : pI f m = q) (hq8 : q ≤ 8) (hq9 : (q : Int) < 9) :
    Calls Try.prog 6 #[.int .i64 n, .int .i64 k, .int .i64 i, .slice a m c] W fun e w' => e = .returned (.bool true) ∧ Below W.heap.size W w' := by
  by_cases o1 : n < 0
  · exact vectPlays_yes_o1 n k i a m c f W hS hf hm q hp hq8 hq9 o1
  by_cases o2 : 8 < n
  · exact vectPlays_yes_o2 n k i a m c f W hS hf hm q hp hq8 hq9 (by omega) o2
  by_cases o3 : k < 0
  · exact vectPlays_yes_o3 n k i a m c f W hS hf hm q hp hq8 hq9 (by omega) (by omega) o3
  by_cases o4 : 8 < k
  · exact vectPlays_yes_o4 n k i a m c f W hS hf hm q hp hq8 hq9 (by omega) (by omega) (by omega) o4
  by_cases i1 : i < 0
  · exact vectPlays_yes_i1 n k i a m c f W hS hf hm q hp hq8 hq9 (by omega) (by omega) (by omega) (by omega) ⟨i1, .inl i1⟩
  by_cases i2 : (cI n k : Int) ≤ i
  · exact vectPlays_yes_i2 n k i a m c f W hS hf hm q hp hq8 hq9 (by omega) (by omega) (by omega) (by omega) (by omega) i2
  · exact vectPlays_yes_i3 n k i a m c f W hS hf hm q hp hq8 hq9 (by omega) (by omega) (by omega) (by omega) (by omega) (by omega)

theorem vectPlays_many (n k i : Int) (a : Option Addr) (m c : Nat) (W : World) (h : 40 < m) :
    Calls Try.prog 6 #[.int .i64 n, .int .i64 k, .int .i64 i, .slice a m c] W fun e w' => e = .returned (.bool true) ∧ Below W.heap.size W w' := by
  go_enter Try.func6, Try.ntmps6
  go_wp2_with fail
  refine (awake_yes _).mono ?_
  rintro e w1 ⟨rfl, h1⟩
  have HB1 := Lib.hid h1
  clear h1
  go_wp2_with fail
  refine (awake_yes _).mono ?_
  rintro e w2 ⟨rfl, h2⟩
  go_wp2_with fail
  go_ret
  exact ⟨rfl, below_trans HB1.out h2 HB1.out.size⟩

theorem vectPlays_any (n k i : Int) (a : Option Addr) (m c : Nat) (f : Nat → Int) (W : World) (hS : Sl .i64 W a m c f) (hf : ∀ i, i < m → (Lit.int .i64 (f i)).wf = true) :
    Calls Try.prog 6 #[.int .i64 n, .int .i64 k, .int .i64 i, .slice a m c] W fun e w' => e = .returned (.bool true) ∧ Below W.heap.size W w' := by
  by_cases h : 40 < m
  · exact vectPlays_many n k i a m c W h
  have hp : pI f m = 9 ∨ pI f m ≤ 8 := by
    unfold pI
    split <;> omega
  rcases hp with hp | hp
  · exact vectPlays_not n k i a m c f W hS (i64_all hf) (by omega) hp
  · exact vectPlays_yes n k i a m c f W hS (i64_all hf) (by omega) _ rfl hp (by omega)
end Go.Proofs.Ytkpbmhppibfpoaa.Ve
