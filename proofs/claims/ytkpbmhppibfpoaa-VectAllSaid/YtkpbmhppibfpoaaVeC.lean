/- Contracts of vect's Count, Bits and Pulses. -/
import Derived.Test.YtkpbmhppibfpoaaVeB
import Derived.Test.YtkpbmhppibfpoaaSl0
import Derived.Test.YtkpbmhppibfpoaaCLength
set_option maxRecDepth 100000
set_option linter.unusedVariables false
namespace Go.Proofs.Ytkpbmhppibfpoaa.Ve
open Go.RowKit Go.Proofs.Ytkpbmhppibfpoaa.Row Go.Maps Go.WideMaps

theorem of_any (b : Nat) (n k : Int) (w : World) (h : Cn w b) :
    Calls Try.prog 21 #[.map (some b), .int .i64 n, .int .i64 k] w fun e w' => e = .returned (.int .i64 (cI n k)) ∧ Ofs w b w' := by
  by_cases c : n < 0 ∨ 8 < n ∨ k < 0 ∨ 8 < k
  · exact of_end w b n k h (.inl c)
  · exact of_in b (n + k).toNat n k w (by omega) (by omega) (by omega) (by omega) (by omega) h

theorem of_as (b : Nat) (n k : Int) (c : Nat) (w : World) (e : cI n k = c) (h : Cn w b) :
    Calls Try.prog 21 #[.map (some b), .int .i64 n, .int .i64 k] w fun e w' => e = .returned (.int .i64 c) ∧ Ofs w b w' := by
  rw [← e]; exact of_any b n k w h

theorem ofs_made {w w' : World} (h : Ofs (w.alloc (.map #[] 0)) w.heap.size w') : Below w.heap.size w w' :=
  (((Fr.refl (Just w.heap.size) w).alloc _).same h.2).below (Nat.le_refl _) fun k e => by rw [e]; exact Nat.le_refl _

theorem count_any (n k : Int) (w : World) :
    Calls Try.prog 14 #[.int .i64 n, .int .i64 k] w fun e w' => e = .returned (.int .i64 (cI n k)) ∧ Below w.heap.size w w' := by
  have hmm := @run_makeMap Try.prog
  go_enter Try.func14, Try.ntmps14
  go_wp2_with fail
  refine (of_any w.heap.size n k _ (cn_made w)).mono ?_
  rintro e w1 ⟨rfl, h1⟩
  go_wp2_with fail
  go_ret
  exact ⟨rfl, ofs_made h1⟩

theorem count_as (n k : Int) (c : Nat) (w : World) (h : cI n k = c) :
    Calls Try.prog 14 #[.int .i64 n, .int .i64 k] w fun e w' => e = .returned (.int .i64 c) ∧ Below w.heap.size w w' := by
  rw [← h]; exact count_any n k w

/-- How few digits the numbers of n and k have. -/
def bI (n k : Int) : Nat := Lib.bitLen (cI n k - 1)

theorem bits_any (n k : Int) (w : World) :
    Calls Try.prog 18 #[.int .i64 n, .int .i64 k] w fun e w' => e = .returned (.int .i64 (bI n k)) ∧ Below w.heap.size w w' := by
  obtain ⟨c, hc⟩ : ∃ c : Nat, cI n k = c := ⟨_, rfl⟩
  have hle := cI_le n k
  rw [hc] at hle
  have HC := Lib.hid hc
  clear hc
  go_enter Try.func18, Try.ntmps18
  go_wp2_with fail
  refine (count_as n k c _ HC.out).mono ?_
  rintro e w1 ⟨rfl, h1⟩
  go_wp2_with fail
  all_goals
    refine (Fix.length_any _ _ (by omega) (by omega)).mono ?_
    rintro e w2 ⟨rfl, rfl⟩
    go_wp2_with fail
    go_ret
    refine ⟨ret_int ?_, h1⟩
    unfold bI
    rw [HC.out]
    congr 2
    omega

theorem pI_great {f : Nat → Int} {n i : Nat} (hi : i < n) (h : f i < -8 ∨ 8 < f i) : pI f n = 9 := by
  unfold pI
  split
  · have := sm_mono f (show i + 1 ≤ n by omega)
    rw [sm_next] at this
    omega
  · rfl
theorem sm_le {f : Nat → Int} : ∀ {a : Nat}, (∀ i, i < a → -8 ≤ f i ∧ f i ≤ 8) → sm f a ≤ 8 * a
  | 0, _ => Nat.zero_le _
  | a + 1, h => by
    have := sm_le (a := a) fun i hi => h i (by omega)
    have := h a (by omega)
    rw [sm_next]; omega

theorem pulses_many (a : Option Addr) (n c : Nat) (f : Nat → Int) (w : World) (h : 8 < n) :
    Calls Try.prog 11 #[.slice a n c] w fun e w' => e = .returned (.int .i64 (pI f n)) ∧ w = w' := by
  have e : pI f n = 9 := by unfold pI; rw [if_neg (by omega)]
  rw [e]
  go_enter Try.func11, Try.ntmps11
  go_wp2_with fail
  go_ret
  exact ⟨rfl, rfl⟩

theorem pulses_few (a : Option Addr) (n c : Nat) (f : Nat → Int) (w : World) (hS : Sl .i64 w a n c f) (h : n ≤ 8) (hf : ∀ i, i < n → -9223372036854775808 ≤ f i ∧ f i ≤ 9223372036854775807) :
    Calls Try.prog 11 #[.slice a n c] w fun e w' => e = .returned (.int .i64 (pI f n)) ∧ w = w' := by
  have HS := Lib.hid hS.2.2
  have HF := Lib.hid hf
  clear hS hf
  go_enter Try.func11, Try.ntmps11
  go_wp2_with fail
  go_loop [3, 11] (fun s i => ∃ k : Nat, k ≤ n ∧ i = .int .i64 k ∧ s = .int .i64 (sm f k) ∧ Hid (∀ j, j < k → -8 ≤ f j ∧ f j ≤ 8)) (fun _ i => n - (intOf i).toNat)
  case atStart => exact ⟨0, Nat.zero_le _, rfl, rfl, Lib.hid fun j hj => absurd hj (Nat.not_lt_zero j)⟩
  case round =>
    obtain ⟨k, hk, rfl, rfl, HB⟩ := hrel
    have hs := sm_le HB.out
    by_cases hlt : k < n
    · obtain ⟨b, o, rfl, hc⟩ := HS.out (by omega)
      have c0 := hc k hlt
      have HC := Lib.hid hc
      clear hc
      obtain ⟨x0, x1⟩ := HF.out k hlt
      obtain ⟨x, hx⟩ : ∃ x, f k = x := ⟨_, rfl⟩
      have HX := Lib.hid hx
      rw [hx] at c0 x0 x1
      clear hx
      by_cases c1 : x < -8
      · go_wp2_with fail
        go_ret
        exact ⟨ret_int (by rw [pI_great hlt (by rw [HX.out]; exact .inl c1)]; rfl), rfl⟩
      by_cases c2 : 8 < x
      · go_wp2_with fail
        go_ret
        exact ⟨ret_int (by rw [pI_great hlt (by rw [HX.out]; exact .inr c2)]; rfl), rfl⟩
      go_wp2_with fail
      refine (unsigned_any x _ (by omega) (by omega)).mono ?_
      rintro e w1 ⟨rfl, rfl⟩
      go_wp2_with fail
      go_round
      case rel =>
        refine ⟨k + 1, by omega, by go_num, by rw [sm_next, HX.out]; go_num, Lib.hid fun j hj => ?_⟩
        by_cases e : j = k
        · rw [e, HX.out]; omega
        · exact HB.out j (by omega)
      case measure => simp [intOf]; omega
    · obtain rfl : k = n := by omega
      go_wp2_with fail
      all_goals
        go_ret
        refine ⟨ret_int ?_, rfl⟩
        unfold pI
        rw [if_pos h]
        omega

theorem pulses_any (a : Option Addr) (n c : Nat) (f : Nat → Int) (w : World) (hS : Sl .i64 w a n c f) (hf : ∀ i, i < n → -9223372036854775808 ≤ f i ∧ f i ≤ 9223372036854775807) :
    Calls Try.prog 11 #[.slice a n c] w fun e w' => e = .returned (.int .i64 (pI f n)) ∧ w = w' := by
  by_cases h : n ≤ 8
  · exact pulses_few a n c f w hS h hf
  · exact pulses_many a n c f w (by omega)
end Go.Proofs.Ytkpbmhppibfpoaa.Ve
