/- VectCounts: the walk. -/
import Derived.Test.YtkpbmhppibfpoaaVeF
set_option maxRecDepth 100000
set_option linter.unusedVariables false
namespace Go.Proofs.Ytkpbmhppibfpoaa.Ve
open Go.RowKit Go.Proofs.Ytkpbmhppibfpoaa.Row Go.Maps Go.WideMaps

theorem u8_bd {l : Int} (h : (Lit.int .u8 l).wf = true) : ∃ n : Nat, l = n ∧ n ≤ 255 := by
  have : 0 ≤ l ∧ l ≤ 255 := by simpa [Lit.wf, IntKind.min, IntKind.max, IntKind.bits, IntKind.signed] using h
  exact ⟨l.toNat, by omega, by omega⟩
theorem u32_bd {l : Int} (h : (Lit.int .u32 l).wf = true) : ∃ n : Nat, l = n ∧ n ≤ 4294967295 := by
  have : 0 ≤ l ∧ l ≤ 4294967295 := by simpa [Lit.wf, IntKind.min, IntKind.max, IntKind.bits, IntKind.signed] using h
  exact ⟨l.toNat, by omega, by omega⟩
theorem i64_bd {l : Int} (h : (Lit.int .i64 l).wf = true) : -9223372036854775808 ≤ l ∧ l ≤ 9223372036854775807 := by
  simpa [Lit.wf, IntKind.min, IntKind.max, IntKind.bits, IntKind.signed] using h
theorem i64_all {f : Nat → Int} {n : Nat} (h : ∀ i, i < n → (Lit.int .i64 (f i)).wf = true) : ∀ i, i < n → -9223372036854775808 ≤ f i ∧ f i ≤ 9223372036854775807 := fun i hi => i64_bd (h i hi)

theorem V_swap {a b : Nat} (ha : a ≤ 8) (hb : b ≤ 8) (h1 : 1 ≤ a) (h2 : 1 ≤ b) : b * V a b = a * V b a ∧ V a 1 = 2 * a ∧ V 1 b = 2 := by
  have : ∀ a : Fin 9, ∀ b : Fin 9, 1 ≤ a.val → 1 ≤ b.val → b.val * V a.val b.val = a.val * V b.val a.val ∧ V a.val 1 = 2 * a.val ∧ V 1 b.val = 2 := by decide +kernel
  exact this ⟨a, by omega⟩ ⟨b, by omega⟩ h1 h2

set_option maxHeartbeats 400000 in
theorem vectCounts_walk (n k : Nat) (W : World) (hn : n ≤ 255) (hk : k ≤ 255) :
    Calls Try.prog 8 #[.int .u8 n, .int .u8 k] W fun e w' => e = .returned (.bool true) ∧ Below W.heap.size W w' := by
  obtain ⟨a, ha⟩ : ∃ a : Nat, 1 + (n : Int) % 8 = a := ⟨1 + n % 8, by omega⟩
  obtain ⟨b, hb⟩ : ∃ b : Nat, 1 + (k : Int) % 8 = b := ⟨1 + k % 8, by omega⟩
  have ha1 : 1 ≤ a ∧ a ≤ 8 := by omega
  have hb1 : 1 ≤ b ∧ b ≤ 8 := by omega
  obtain ⟨e1, e2, e3⟩ := V_swap ha1.2 hb1.2 ha1.1 hb1.1
  obtain ⟨u, hu⟩ : ∃ u, V a b = u := ⟨_, rfl⟩
  obtain ⟨v, hv⟩ : ∃ v, V b a = v := ⟨_, rfl⟩
  have bu := V_le ha1.2 hb1.2
  have bv := V_le hb1.2 ha1.2
  rw [hu] at e1 bu
  rw [hv] at e1 bv
  have C1 := Lib.hid (show cI a b = u by rw [cI_nat ha1.2 hb1.2, hu])
  have C2 := Lib.hid (show cI b a = v by rw [cI_nat hb1.2 ha1.2, hv])
  have C3 := Lib.hid (show cI a 0 = 1 from cI_zero (by omega) (by omega))
  have C4 := Lib.hid (show cI ((1 : Nat) : Int) b = 2 by rw [cI_nat (Nat.le_of_ble_eq_true rfl) hb1.2]; exact e3)
  have C5 := Lib.hid (show cI a ((1 : Nat) : Int) = 2 * a by rw [cI_nat ha1.2 (Nat.le_of_ble_eq_true rfl)]; exact e2)
  have p1 : (b : Int) * u ≤ 8 * 6975757441 := by
    have := Nat.mul_le_mul hb1.2 bu
    have : ((b * u : Nat) : Int) ≤ ((8 * 6975757441 : Nat) : Int) := Int.ofNat_le.2 this
    rw [Int.natCast_mul] at this
    omega
  have p0 : 0 ≤ (b : Int) * u := Int.mul_nonneg (by omega) (by omega)
  have E1 : (a : Int) * v = (b : Int) * u := by rw [← Int.natCast_mul, ← Int.natCast_mul, e1]
  clear hu hv e1 e2 e3 bu bv
  go_enter Try.func8, Try.ntmps8
  go_wp2_with fail
  refine (awake_yes _).mono ?_
  rintro e w1 ⟨rfl, h1⟩
  have HB1 := Lib.hid h1
  clear h1
  go_wp2_with fail
  refine (count_as _ _ _ _ C1.out).mono ?_
  rintro e w2 ⟨rfl, h2⟩
  have HB2 := Lib.hid (below_trans HB1.out h2 HB1.out.size)
  clear h2 HB1
  go_wp2_with fail
  refine (count_as _ _ _ _ C2.out).mono ?_
  rintro e w3 ⟨rfl, h3⟩
  have HB3 := Lib.hid (below_trans HB2.out h3 HB2.out.size)
  clear h3 HB2
  go_wp2_with fail
  refine (count_as _ _ _ _ C3.out).mono ?_
  rintro e w4 ⟨rfl, h4⟩
  have HB4 := Lib.hid (below_trans HB3.out h4 HB3.out.size)
  clear h4 HB3
  go_wp2_with fail
  refine (count_as _ _ _ _ C4.out).mono ?_
  rintro e w5 ⟨rfl, h5⟩
  have HB5 := Lib.hid (below_trans HB4.out h5 HB4.out.size)
  clear h5 HB4
  go_wp2_with fail
  refine (count_as _ _ _ _ C5.out).mono ?_
  rintro e w6 ⟨rfl, h6⟩
  have HB6 := Lib.hid (below_trans HB5.out h6 HB5.out.size)
  clear h6 HB5
  go_wp2_with fail
  go_ret
  exact ⟨rfl, HB6.out⟩

theorem vectCounts_any (a0 a1 : Int) (W : World) (w0 : (Lit.int .u8 a0).wf = true) (w1 : (Lit.int .u8 a1).wf = true) :
    Calls Try.prog 8 #[.int .u8 a0, .int .u8 a1] W fun e w' => e = .returned (.bool true) ∧ Below W.heap.size W w' := by
  obtain ⟨n, rfl, hn⟩ := u8_bd w0
  obtain ⟨k, rfl, hk⟩ := u8_bd w1
  exact vectCounts_walk n k W hn hk
end Go.Proofs.Ytkpbmhppibfpoaa.Ve
