/- Contracts of the document's Size, Pulses and Count. -/
import Derived.Test.YtkpbmhppibfpoaaVeE
import Derived.Test.YtkpbmhppibfpoaaRowMvC
import Derived.Test.YtkpbmhppibfpoaaRowMvY
set_option maxRecDepth 100000
set_option linter.unusedVariables false
namespace Go.Proofs.Ytkpbmhppibfpoaa.Ve
open Go.RowKit Go.Proofs.Ytkpbmhppibfpoaa.Row Go.Maps Go.WideMaps

/-- The document's size of a number. -/
def sz (x : Int) : Int := if x < -1099511627776 ∨ 1099511627776 < x then 1099511627776 else x.natAbs
theorem sz_small {x : Int} (h : -1099511627776 ≤ x) (h' : x ≤ 1099511627776) : sz x = x.natAbs := by unfold sz; rw [if_neg (by omega)]

theorem refSize_as (x r : Int) (w : World) (h : sz x = r) :
    Calls Try.prog 24 #[.int .i64 x] w fun e w' => e = .returned (.int .i64 r) ∧ w = w' := by
  subst h
  by_cases c1 : x < -1099511627776
  · go_enter Try.func24, Try.ntmps24
    go_wp2
    go_ret
    exact ⟨ret_int (by unfold sz; rw [if_pos (.inl c1)]), rfl⟩
  · by_cases c2 : 1099511627776 < x
    · go_enter Try.func24, Try.ntmps24
      go_wp2
      go_ret
      exact ⟨ret_int (by unfold sz; rw [if_pos (.inr c2)]), rfl⟩
    · by_cases c3 : x < 0
      · go_enter Try.func24, Try.ntmps24
        go_wp2
        go_ret
        exact ⟨ret_int (by unfold sz; rw [if_neg (by omega)]; omega), rfl⟩
      · go_enter Try.func24, Try.ntmps24
        go_wp2
        go_ret
        exact ⟨ret_int (by unfold sz; rw [if_neg (by omega)]; omega), rfl⟩

theorem sz_bd (x : Int) : 0 ≤ sz x ∧ sz x ≤ 1099511627776 := by unfold sz; split <;> omega
theorem sz_min {x : Int} {n : Nat} (h : n ≤ 9) : min (n + sz x) 9 = (min (n + x.natAbs) 9 : Nat) := by unfold sz; split <;> omega

/-- min of a number and 9. -/
theorem run_min9 (x u : Int) (h : min x 9 = u) (w : World) :
    (Builtin.min_ #[3, 3] 3 #[.int .i64 x, .int .i64 9]).run Try.prog w = .ok (.int .i64 u) w := by
  have e : (if (9 : Int) < x then 9 else x) = u := by rw [← h]; split <;> omega
  rw [← e]
  simp [Builtin.min_, Builtin.min2]

theorem refPulses_many (a : Option Addr) (n c : Nat) (f : Nat → Int) (w : World) (h : 8 < n) :
    Calls Try.prog 16 #[.slice a n c] w fun e w' => e = .returned (.int .i64 (pI f n)) ∧ w = w' := by
  have e : pI f n = 9 := by unfold pI; rw [if_neg (by omega)]
  rw [e]
  go_enter Try.func16, Try.ntmps16
  go_wp2_with fail
  go_ret
  exact ⟨rfl, rfl⟩

theorem refPulses_few (a : Option Addr) (n c : Nat) (f : Nat → Int) (w : World) (hS : Sl .i64 w a n c f) (h : n ≤ 8) :
    Calls Try.prog 16 #[.slice a n c] w fun e w' => e = .returned (.int .i64 (pI f n)) ∧ w = w' := by
  have HS := Lib.hid hS.2.2
  clear hS
  go_enter Try.func16, Try.ntmps16
  go_wp2_with fail
  go_loop [3, 4] (fun s i => ∃ k : Nat, k ≤ n ∧ i = .int .i64 k ∧ s = .int .i64 (min (sm f k) 9 : Nat)) (fun _ i => n - (intOf i).toNat)
  case atStart => exact ⟨0, Nat.zero_le _, rfl, rfl⟩
  case round =>
    obtain ⟨k, hk, rfl, rfl⟩ := hrel
    obtain ⟨s, hs⟩ : ∃ s, min (sm f k) 9 = s := ⟨_, rfl⟩
    have hs9 : s ≤ 9 := by omega
    have HM := Lib.hid hs
    rw [hs]
    by_cases hlt : k < n
    · obtain ⟨b, o, rfl, hc⟩ := HS.out (by omega)
      have c0 := hc k hlt
      have HE := Lib.hid (show min (sm f (k + 1)) 9 = min (s + (f k).natAbs) 9 by rw [sm_next]; omega)
      obtain ⟨x, hx⟩ : ∃ x, f k = x := ⟨_, rfl⟩
      rw [hx] at c0 HE
      obtain ⟨z, hz⟩ : ∃ z, sz x = z := ⟨_, rfl⟩
      have HZ := Lib.hid hz
      obtain ⟨z0, z1⟩ := sz_bd x
      rw [hz] at z0 z1
      have hq := sz_min (x := x) hs9
      rw [hz] at hq
      obtain ⟨q, hq2⟩ : ∃ q, min (s + x.natAbs) 9 = q := ⟨_, rfl⟩
      rw [hq2] at hq HE
      have hmn := run_min9 _ _ hq
      clear hx hz hs hc hq hq2
      go_wp2_with fail
      refine (refSize_as x z _ HZ.out).mono ?_
      rintro e w1 ⟨rfl, rfl⟩
      go_wp2_with fail
      go_round
      case rel => exact ⟨k + 1, by omega, by go_num, by rw [HE.out]⟩
      case measure => simp [intOf]; omega
    · obtain rfl : k = n := by omega
      go_wp2_with fail
      go_ret
      refine ⟨ret_int ?_, rfl⟩
      unfold pI
      rw [if_pos h, HM.out]

theorem refPulses_any (a : Option Addr) (n c : Nat) (f : Nat → Int) (w : World) (hS : Sl .i64 w a n c f) :
    Calls Try.prog 16 #[.slice a n c] w fun e w' => e = .returned (.int .i64 (pI f n)) ∧ w = w' := by
  by_cases h : n ≤ 8
  · exact refPulses_few a n c f w hS h
  · exact refPulses_many a n c f w (by omega)
end Go.Proofs.Ytkpbmhppibfpoaa.Ve
