/- ShapeFits: the walk. -/
import Derived.Test.YtncieojippiokaaShU
import Derived.Test.YtncieojippiokaaCPulses
set_option maxRecDepth 100000
set_option linter.unusedVariables false
namespace Go.Proofs.Ytncieojippiokaa.Sh
open Go.RowKit Go.Proofs.Ytncieojippiokaa.Row

theorem u8_bd {l : Int} (h : (Lit.int .u8 l).wf = true) : ∃ n : Nat, l = n ∧ n ≤ 255 := by
  have : 0 ≤ l ∧ l ≤ 255 := by simpa [Lit.wf, IntKind.min, IntKind.max, IntKind.bits, IntKind.signed] using h
  exact ⟨l.toNat, by omega, by omega⟩
theorem i64_bd {l : Int} (h : (Lit.int .i64 l).wf = true) : -9223372036854775808 ≤ l ∧ l ≤ 9223372036854775807 := by
  simpa [Lit.wf, IntKind.min, IntKind.max, IntKind.bits, IntKind.signed] using h
theorem i64_all {f : Nat → Int} {n : Nat} (h : ∀ i, i < n → (Lit.int .i64 (f i)).wf = true) : ∀ i, i < n → -9223372036854775808 ≤ f i ∧ f i ≤ 9223372036854775807 := fun i hi => i64_bd (h i hi)

theorem f_pulses {c : Nat → Int} {n : Nat} (hn : 0 < n) (k : Nat) : S (fun i => (fS c n k i).natAbs) n = k := by
  rw [S_congr fun i _ => f_abs c n k i]
  exact y_sum hn k

set_option maxHeartbeats 400000 in
theorem shapeFits_none (a : Option Addr) (c : Nat) (f : Nat → Int) (k : Nat) (W : World) (hS : Sl .i64 W a 0 c f) (hk : k ≤ 255) :
    Calls Try.prog 3 #[.slice a 0 c, .int .u8 k] W fun e w' => e = .returned (.bool true) ∧ Below W.heap.size W w' := by
  have HW := Lib.hid (waves_as a 0 c f W hS fun i hi => absurd hi (Nat.not_lt_zero i))
  clear hS
  go_enter Try.func3, Try.ntmps3
  go_wp2_with fail
  refine HW.out.mono ?_
  rintro e w1 ⟨a', c', rfl, ho, h1⟩
  have HS1 := Lib.hid ho.sl
  have HB1 := Lib.hid h1
  clear ho h1 HW
  rw [show min 0 8 = 0 from rfl] at HS1 ⊢
  go_wp2_with fail
  refine (find_no a' 0 c' (wv f) _ _ HS1.out (.inl rfl)).mono ?_
  rintro e w2 ⟨rfl, rfl⟩
  go_wp2_with fail
  refine (awake_yes _).mono ?_
  rintro e w2 ⟨rfl, h2⟩
  have HB2 := Lib.hid (below_trans HB1.out h2 HB1.out.size)
  clear h2 HB1
  go_wp2_with fail
  refine (awake_yes _).mono ?_
  rintro e w3 ⟨rfl, h3⟩
  go_wp2_with fail
  go_ret
  exact ⟨rfl, below_trans HB2.out h3 HB2.out.size⟩

/-- What stands while waves and pulses are compared. -/
def TwS (W : World) (a' : Option Addr) (g m : Nat) (x y : Nat → Int) (w' : World) : Prop := Below W.heap.size W w' ∧ (∃ b o, a' = some ⟨b, o, none⟩ ∧ ∀ i, i < m → w'.cell? ⟨b, o + i, none⟩ = some (.int .i64 (x i))) ∧ ∀ i, i < m → w'.cell? ⟨g, i, none⟩ = some (.int .i64 (y i))

set_option maxHeartbeats 800000 in
theorem shapeFits_some (a : Option Addr) (n c : Nat) (f : Nat → Int) (k : Nat) (W : World) (hS : Sl .i64 W a n c f) (hf : ∀ i, i < n → -9223372036854775808 ≤ f i ∧ f i ≤ 9223372036854775807) (h0 : 0 < n) (hk : k ≤ 255) :
    Calls Try.prog 3 #[.slice a n c, .int .u8 k] W fun e w' => e = .returned (.bool true) ∧ Below W.heap.size W w' := by
  obtain ⟨m, hm⟩ : ∃ m, min n 8 = m := ⟨_, rfl⟩
  have hm0 : 0 < m := by omega
  have hm8 : m ≤ 8 := by omega
  have HW := Lib.hid (waves_as a n c f W hS hf)
  rw [hm] at HW
  obtain ⟨K, hK⟩ : ∃ K : Nat, (k : Int) % 9 = K := ⟨k % 9, by omega⟩
  have hK8 : K ≤ 8 := by omega
  have HO := Lib.hid (wv_ok f hm0 hm8)
  clear hS hf hm
  go_enter Try.func3, Try.ntmps3
  go_wp2_with fail
  refine HW.out.mono ?_
  rintro e w1 ⟨a', c', rfl, ho, h1⟩
  have HS1 := Lib.hid ho.sl
  have HB1 := Lib.hid h1
  clear ho h1 HW
  go_wp2_with fail
  rw [hK]
  clear hK
  refine (find_yes a' m c' K (wv f) _ HS1.out HO.out hK8).mono ?_
  rintro e w2 ⟨g, U, rfl, hg, hU, hA, h2⟩
  have HB2 := Lib.hid (below_trans HB1.out h2 HB1.out.size)
  have HS2 := Lib.hid (HS1.out.below h2)
  have HU := Lib.hid hU
  have HA := Lib.hid hA
  clear hg hU hA h2 HS1 HB1
  go_wp2_with fail
  refine (awake_yes _).mono ?_
  rintro e w3 ⟨rfl, h3⟩
  have HB3 := Lib.hid (below_trans HB2.out h3 HB2.out.size)
  have HS3 := Lib.hid (HS2.out.below h3)
  have HA3 := Lib.hid (HA.out.below h3 HA.out.lt)
  have HY := Lib.hid (Sl.of_isRow HU.out HA3.out (by unfold maxLen; omega))
  clear h3 HS2 HB2 HA
  have hmz : ((m : Int) == 0) = false := by rw [beq_eq_false_iff_ne]; omega
  have hmm : ((m : Int) != (m : Int)) = false := by simp
  have hKK : ((K : Int) != (K : Int)) = false := by simp
  go_wp2_with fail
  refine (pulses_as _ m m K _ _ HY.out hm8 (fun i _ => by have := f_bd (wv f) m K i; omega) (f_pulses hm0 K) hK8).mono ?_
  rintro e w4 ⟨rfl, rfl⟩
  go_wp2_with fail
  go_loop [9] (fun i => ∃ j : Nat, j ≤ m ∧ i = .int .i64 j) (fun i => m - (intOf i).toNat)
  case atStart => exact ⟨0, Nat.zero_le _, rfl⟩
  case round =>
    obtain ⟨j, hj, rfl⟩ := hrel
    by_cases hlt : j < m
    · obtain ⟨b, o, rfl, hc⟩ := HS3.out.2.2 hm0
      have c0 := hc j hlt
      have c1 := HU.out.cell HA3.out j hlt
      obtain ⟨s1, s2⟩ := f_sign (wv f) m K j
      obtain ⟨v, hv⟩ : ∃ v, wv f j = v := ⟨_, rfl⟩
      obtain ⟨p, hp⟩ : ∃ p, fS (wv f) m K j = p := ⟨_, rfl⟩
      rw [hv] at c0 s1 s2
      rw [hp] at c1 s1 s2
      clear hc hv hp
      by_cases v0 : v < 0
      · have p0 : ¬ 0 < p := fun h => s1 ⟨v0, h⟩
        clear s1 s2
        go_wp2_with fail
        go_round
        case rel => exact ⟨j + 1, by omega, by go_num⟩
        case measure => simp [intOf]; omega
      · by_cases v1 : 0 < v
        · have p0 : ¬ p < 0 := fun h => s2 ⟨v1, h⟩
          clear s1 s2
          go_wp2_with fail
          go_round
          case rel => exact ⟨j + 1, by omega, by go_num⟩
          case measure => simp [intOf]; omega
        · clear s1 s2
          go_wp2_with fail
          go_round
          case rel => exact ⟨j + 1, by omega, by go_num⟩
          case measure => simp [intOf]; omega
    · obtain rfl : j = m := by omega
      have HG := Lib.hid (gain_yes a' _ j c' j (wv f) _ _ HS3.out HY.out HO.out ((okW_iff _ _ _).2 fun i _ => by have := f_bd (wv f) j K i; omega))
      rw [f_a hm0 K, f_q hm0 K] at HG
      have q1 := q_ge (sz (wv f)) j K
      have q2 := q_le (sz (wv f)) j K
      obtain ⟨A, hA⟩ : ∃ A, aS (sz (wv f)) j K = A := ⟨_, rfl⟩
      obtain ⟨Q, hQ⟩ : ∃ Q, qS (sz (wv f)) j K = Q := ⟨_, rfl⟩
      rw [hA] at HG
      rw [hQ] at HG q1 q2
      have k1 := Nat.mul_le_mul hK8 hK8
      have k2 : (0 : Int) ≤ (K : Int) * K ∧ (K : Int) * K ≤ 64 := by
        have : ((K * K : Nat) : Int) ≤ ((8 * 8 : Nat) : Int) := Int.ofNat_le.2 k1
        have h0 := Int.natCast_nonneg (K * K)
        rw [Int.natCast_mul] at this h0
        omega
      have q3 : (Q : Int) ≤ (K : Int) * K := by
        have : ((Q : Nat) : Int) ≤ ((K * K : Nat) : Int) := Int.ofNat_le.2 q2
        rw [Int.natCast_mul] at this
        omega
      have q4 : (K : Int) ≤ (Q : Int) := by omega
      clear hA hQ k1 q1 q2
      go_wp2_with fail
      refine HG.out.mono ?_
      rintro e w5 ⟨rfl, rfl⟩
      go_wp2_with fail
      go_ret
      exact ⟨rfl, HB3.out⟩

theorem shapeFits_any (a : Option Addr) (n c : Nat) (f : Nat → Int) (k : Int) (W : World) (hS : Sl .i64 W a n c f) (hf : ∀ i, i < n → (Lit.int .i64 (f i)).wf = true) (w1 : (Lit.int .u8 k).wf = true) :
    Calls Try.prog 3 #[.slice a n c, .int .u8 k] W fun e w' => e = .returned (.bool true) ∧ Below W.heap.size W w' := by
  obtain ⟨k, rfl, hk⟩ := u8_bd w1
  by_cases h0 : n = 0
  · subst h0; exact shapeFits_none a c f k W hS hk
  · exact shapeFits_some a n c f k W hS (i64_all hf) (by omega) hk
end Go.Proofs.Ytncieojippiokaa.Sh
