/- Contract of vect's unsigned and Pulses, at vectors of up to 8 pulses. -/
import Derived.Test.YtncieojippiokaaShMath
import Derived.Test.YtncieojippiokaaSl0
set_option maxRecDepth 100000
set_option linter.unusedVariables false
namespace Go.Proofs.Ytncieojippiokaa.Sh
open Go.RowKit Go.Proofs.Ytncieojippiokaa.Row

theorem vunsigned_as (v : Int) (u : Nat) (w : World) (h : -8 ≤ v) (h' : v ≤ 8) (hu : v.natAbs = u) :
    Calls Try.prog 16 #[.int .i64 v] w fun e w' => e = .returned (.int .i64 u) ∧ w = w' := by
  go_enter Try.func16, Try.ntmps16
  go_wp2
  all_goals
    go_ret
    refine ⟨ret_int ?_, rfl⟩
    omega

theorem S_mono {f : Nat → Nat} {a b : Nat} (h : a ≤ b) : S f a ≤ S f b := by
  induction b with
  | zero => obtain rfl : a = 0 := by omega
            exact Nat.le_refl _
  | succ b ih =>
    by_cases e : a = b + 1
    · rw [e]; exact Nat.le_refl _
    · have := ih (by omega)
      rw [S]; omega

theorem pulses_as (a : Option Addr) (n c k : Nat) (f : Nat → Int) (w : World) (hS : Sl .i64 w a n c f) (h8 : n ≤ 8) (hf : ∀ i, i < n → -8 ≤ f i ∧ f i ≤ 8) (hs : S (fun i => (f i).natAbs) n = k) (hk : k ≤ 8) :
    Calls Try.prog 11 #[.slice a n c] w fun e w' => e = .returned (.int .i64 k) ∧ w = w' := by
  have HS := Lib.hid hS.2.2
  have HF := Lib.hid hf
  have HK := Lib.hid hs
  have HM := Lib.hid (fun j (hj : j ≤ n) => Nat.le_trans (S_mono (f := fun i => (f i).natAbs) hj) (Nat.le_trans (Nat.le_of_eq hs) hk))
  clear hS hf hs
  go_enter Try.func11, Try.ntmps11
  go_wp2_with fail
  go_loop [3, 11] (fun s i => ∃ k : Nat, k ≤ n ∧ i = .int .i64 k ∧ s = .int .i64 (S (fun i => (f i).natAbs) k)) (fun _ i => n - (intOf i).toNat)
  case atStart => exact ⟨0, Nat.zero_le _, rfl, rfl⟩
  case round =>
    obtain ⟨j, hj, rfl, rfl⟩ := hrel
    have hs := HM.out j hj
    by_cases hlt : j < n
    · obtain ⟨b, o, rfl, hc⟩ := HS.out (by omega)
      have c0 := hc j hlt
      clear hc
      obtain ⟨x0, x1⟩ := HF.out j hlt
      have HN := Lib.hid (show S (fun i => (f i).natAbs) (j + 1) = S (fun i => (f i).natAbs) j + (f j).natAbs from rfl)
      obtain ⟨x, hx⟩ : ∃ x, f j = x := ⟨_, rfl⟩
      obtain ⟨s, hse⟩ : ∃ s, S (fun i => (f i).natAbs) j = s := ⟨_, rfl⟩
      rw [hx] at c0 x0 x1 HN
      rw [hse] at hs HN ⊢
      clear hx hse
      obtain ⟨u, hu⟩ : ∃ u, x.natAbs = u := ⟨_, rfl⟩
      rw [hu] at HN
      go_wp2_with fail
      refine (vunsigned_as x u _ x0 x1 hu).mono ?_
      rintro e w1 ⟨rfl, rfl⟩
      have hu8 : u ≤ 8 := by omega
      clear hu
      go_wp2_with fail
      go_round
      case rel => exact ⟨j + 1, by omega, by go_num, congrArg (Value.int .i64) (by rw [HN.out]; omega)⟩
      case measure => simp [intOf]; omega
    · obtain rfl : j = n := by omega
      have e := HK.out
      rw [e] at hs ⊢
      go_wp2_with fail
      all_goals
        go_ret
        refine ⟨ret_int ?_, rfl⟩
        omega
end Go.Proofs.Ytncieojippiokaa.Sh
