/- The statements' walks of layer 1, first part: awake, Pow, FixMuls, FixCuts, FixShifts. -/
import Derived.Test.YtlghgfalkpgghaaFixA
namespace Go.Proofs.Ytlghgfalkpgghaa.Law01
open Go.RowKit Go.Proofs.Ytlghgfalkpgghaa.Fix

theorem awake_yes (w : World) :
    Calls Try.prog 11 #[] w fun e w' => e = .returned (.bool true) ∧ w = w' := by
  have h1 : mulS 3 16384 = 2 := by decide
  have h2 : cutS 40000 16 = 32767 := by decide
  go_enter Try.func11, Try.ntmps11
  go_wp2_with (first
    | (go_at_call 15; refine (mul_in _ _ _ (by omega) (by omega) (by omega) (by omega)).mono ?_; rintro e w' ⟨rfl, rfl⟩)
    | (go_at_call 9; refine (cut_any _ _ _).mono ?_; rintro e w' ⟨rfl, rfl⟩))
  go_ret
  exact ⟨rfl, rfl⟩

theorem pow_any (n : Int) (w : World) (h1 : 0 ≤ n) (h2 : n ≤ 62) :
    Calls Try.prog 10 #[.int .i64 n] w fun e w' => e = .returned (.int .i64 (2 ^ n.toNat)) ∧ w = w' := by
  go_enter Try.func10, Try.ntmps10
  go_wp2
  go_loop [3, 4] (fun p i => ∃ k : Nat, (k : Int) ≤ n ∧ i = .int .i64 k ∧ p = .int .i64 (2 ^ k)) (fun _ i => n.toNat - (intOf i).toNat)
  case atStart => exact ⟨0, by omega, rfl, rfl⟩
  case round =>
    obtain ⟨k, hk, rfl, rfl⟩ := hrel
    by_cases hlt : (k : Int) < n
    · obtain ⟨hp, hq⟩ := pow_bd (show k ≤ 61 by omega)
      simp only [Int.reducePow] at hq
      go_wp2
      go_round
      case rel => exact ⟨k + 1, by omega, by go_num, by rw [Int.pow_succ, Int.mul_comm]⟩
      case measure => simp [intOf]; omega
    · go_wp2
      go_ret
      exact ⟨ret_int (by rw [show n.toNat = k by omega]), rfl⟩

theorem tmod_bd (a b : Int) (h : 0 < b) : -b < a.tmod b ∧ a.tmod b < b := by
  have h1 := Int.tmod_lt_of_pos a h
  have h2 := Int.tmod_lt_of_pos (-a) h
  rw [Int.neg_tmod] at h2
  omega

theorem fixMuls_walk (a0 : Int) (a1 : Int) (_w0 : (Lit.int .i64 a0).wf = true) (_w1 : (Lit.int .i64 a1).wf = true) (w : World) :
    Calls Try.prog 7 #[.int .i64 a0, .int .i64 a1] w fun e w' => e = .returned (.bool true) ∧ Grown w w' := by
  have t0 := tmod_bd a0 2147483648 (by omega)
  have t1 := tmod_bd a1 2147483648 (by omega)
  have hx1 : -2147483648 ≤ a0.tmod 2147483648 := by omega
  have hx2 : a0.tmod 2147483648 ≤ 2147483648 := by omega
  have hy1 : -2147483648 ≤ a1.tmod 2147483648 := by omega
  have hy2 : a1.tmod 2147483648 ≤ 2147483648 := by omega
  clear t0 t1
  have e1 : (mulS (a0.tmod 2147483648) (a1.tmod 2147483648) == mulS (a1.tmod 2147483648) (a0.tmod 2147483648)) = true := by
    unfold mulS; rw [Int.mul_comm]; simp
  have e2 : (mulS (a0.tmod 2147483648) 32768 == a0.tmod 2147483648) = true := by
    unfold mulS; simp; omega
  have e3 : (mulS (a0.tmod 2147483648) (-32768) == -a0.tmod 2147483648) = true := by
    unfold mulS; simp; omega
  have e4 : (mulS (a0.tmod 2147483648) 0 == 0) = true := by
    unfold mulS; simp
  have e5 : (mulS (a0.tmod 2147483648) 65536 == 2 * a0.tmod 2147483648) = true := by
    unfold mulS; simp; omega
  go_enter Try.func7, Try.ntmps7
  go_wp2_with (first
    | (go_at_call 11; refine (awake_yes _).mono ?_; rintro e w' ⟨rfl, rfl⟩)
    | (go_at_call 15; refine (mul_in _ _ _ (by omega) (by omega) (by omega) (by omega)).mono ?_; rintro e w' ⟨rfl, rfl⟩))
  go_ret
  exact ⟨rfl, Grown.refl _⟩

end Go.Proofs.Ytlghgfalkpgghaa.Law01
