/- Contracts: state.within, state.Right. -/
import Derived.Test.YtfpmajlgbipbmaaStA
import Derived.Test.YtfpmajlgbipbmaaMrA
import Derived.Test.YtfpmajlgbipbmaaSl0
set_option maxRecDepth 100000
set_option linter.unusedVariables false
namespace Go.Proofs.Ytfpmajlgbipbmaa.Sta
open Go.RowKit Go.Proofs.Ytfpmajlgbipbmaa.Row Go.Proofs.Ytfpmajlgbipbmaa.Md

theorem within_yes (lo hi : Int) (a : Option Addr) (n c : Nat) (h : Nat → Int) (w : World) (hS : Sl .i64 w a n c h) (hn : n ≤ 16) (hh : ∀ i, i < n → lo ≤ h i ∧ h i ≤ hi) :
    Calls Try.prog 30 #[.int .i64 lo, .int .i64 hi, .slice a n c] w fun e w' => e = .returned (.bool true) ∧ w = w' := by
  have HS := Lib.hid hS.2.2
  have HF := Lib.hid hh
  clear hS hh
  go_enter Try.func30, Try.ntmps30
  go_wp2_with fail
  go_loop [11] (fun i => ∃ k : Nat, k ≤ n ∧ i = .int .i64 k) (fun i => n - (intOf i).toNat)
  case atStart => exact ⟨0, Nat.zero_le _, rfl⟩
  case round =>
    obtain ⟨k, hk, rfl⟩ := hrel
    by_cases hlt : k < n
    · obtain ⟨b, o, rfl, hc⟩ := HS.out (by omega)
      have c0 := hc k hlt
      clear hc
      obtain ⟨x0, x1⟩ := HF.out k hlt
      obtain ⟨x, hx⟩ : ∃ x, h k = x := ⟨_, rfl⟩
      rw [hx] at c0 x0 x1
      clear hx
      go_wp2_with fail
      go_round
      case rel => exact ⟨k + 1, by omega, by go_num⟩
      case measure => simp [intOf]; omega
    · obtain rfl : k = n := by omega
      go_wp2_with fail
      go_ret
      exact ⟨rfl, rfl⟩

theorem within_no (lo hi : Int) (a : Option Addr) (n c : Nat) (h : Nat → Int) (w : World) (hS : Sl .i64 w a n c h) (hn : n ≤ 16) (hh : ¬ ∀ i, i < n → lo ≤ h i ∧ h i ≤ hi) :
    Calls Try.prog 30 #[.int .i64 lo, .int .i64 hi, .slice a n c] w fun e w' => e = .returned (.bool false) ∧ w = w' := by
  obtain ⟨j, hj, hbad, hpre⟩ := first_bad hh
  have HS := Lib.hid hS.2.2
  have HF := Lib.hid hpre
  have HB := Lib.hid hbad
  clear hS hh hpre hbad
  go_enter Try.func30, Try.ntmps30
  go_wp2_with fail
  go_loop [11] (fun i => ∃ k : Nat, k ≤ j ∧ i = .int .i64 k) (fun i => n - (intOf i).toNat)
  case atStart => exact ⟨0, Nat.zero_le _, rfl⟩
  case round =>
    obtain ⟨k, hk, rfl⟩ := hrel
    have hlt : k < n := by omega
    obtain ⟨b, o, rfl, hc⟩ := HS.out (by omega)
    have c0 := hc k hlt
    clear hc
    obtain ⟨x, hx⟩ : ∃ x, h k = x := ⟨_, rfl⟩
    rw [hx] at c0
    by_cases hkj : k < j
    · obtain ⟨x0, x1⟩ := HF.out k hkj
      rw [hx] at x0 x1
      clear hx
      go_wp2_with fail
      go_round
      case rel => exact ⟨k + 1, by omega, by go_num⟩
      case measure => simp [intOf]; omega
    · obtain rfl : k = j := by omega
      have hb := HB.out
      rw [hx] at hb
      clear hx
      by_cases c1 : x < lo
      · go_wp2_with fail
        go_ret
        exact ⟨rfl, rfl⟩
      · have c2 : hi < x := by omega
        go_wp2_with fail
        go_ret
        exact ⟨rfl, rfl⟩
end Go.Proofs.Ytfpmajlgbipbmaa.Sta
