/- Contracts of level's count and Fill. -/
import Derived.Test.YtlnmpgbknalagaaDoorLvB
namespace Go.Proofs.YtlnmpgbknalagaaDoor.Lv
open Go.RowKit Go.Proofs.YtlnmpgbknalagaaDoor.Row

theorem cnt_bad {y : Nat → Int} {n k : Nat} (hk : k < n) (h : ¬ (-8 ≤ y k ∧ y k ≤ 8)) : cnt y n = 0 := by
  unfold cnt
  rw [if_neg]
  intro hh
  exact h ((okY_iff y n).1 hh.2 k hk)
theorem cnt_ok {y : Nat → Int} {n : Nat} (h8 : n ≤ 8) (h : okY y n = true) : cnt y n = sm (fun i => uns (y i)) n := by
  unfold cnt
  rw [if_pos ⟨h8, h⟩]
theorem hld_in {x : Int} (h1 : -8 ≤ x) (h2 : x ≤ 8) : hld x 8 = x := by unfold hld; omega
theorem hld_out {x : Int} (h : ¬ (-8 ≤ x ∧ x ≤ 8)) : (x == hld x 8) = false := by rw [beq_eq_false_iff_ne]; unfold hld; omega

theorem count_none (a : Option Addr) (c : Nat) (w : World) :
    Calls Tryd.prog 22 #[.slice a 0 c] w fun e w' => e = .returned (.int .i64 0) ∧ w = w' := by
  go_enter Tryd.func22, Tryd.ntmps22
  go_wp2
  refine wp_loop_rounds 1 ?_
  rw [rounds_succ]
  go_wp2
  go_ret
  exact ⟨rfl, rfl⟩

set_option maxHeartbeats 400000 in
theorem count_some (b o n c : Nat) (y : Nat → Int) (w : World) (h8 : n ≤ 8) (hc : ∀ i, i < n → w.cell? ⟨b, o + i, none⟩ = some (.int .i64 (y i))) :
    Calls Tryd.prog 22 #[.slice (some ⟨b, o, none⟩) n c] w fun e w' => e = .returned (.int .i64 (cnt y n)) ∧ w = w' := by
  have HC := Lib.hid hc
  clear hc
  go_enter Tryd.func22, Tryd.ntmps22
  go_wp2
  go_loop [3, 11] (fun s i => ∃ k : Nat, k ≤ n ∧ i = .int .i64 k ∧ s = .int .i64 (sm (fun i => uns (y i)) k) ∧ Hid (okY y k = true)) (fun _ i => n - (intOf i).toNat)
  case atStart => exact ⟨0, Nat.zero_le _, rfl, rfl, Lib.hid rfl⟩
  case round =>
    obtain ⟨k, hk, rfl, rfl, HK⟩ := hrel
    obtain ⟨s1, s2⟩ := smu_bd y k HK.out
    have HS := Lib.hid (show sm (fun i => uns (y i)) (k + 1) = sm (fun i => uns (y i)) k + uns (y k) from rfl)
    have HO := Lib.hid (show okY y (k + 1) = (okY y k && decide (-8 ≤ y k ∧ y k ≤ 8)) from rfl)
    by_cases hlt : k < n
    · have c0 := HC.out k hlt
      by_cases hb : -8 ≤ y k ∧ y k ≤ 8
      · obtain ⟨x, hx⟩ : ∃ x, y k = x := ⟨_, rfl⟩
        rw [hx] at c0 hb
        obtain ⟨b1, b2⟩ := hb
        obtain ⟨u, hu⟩ : ∃ u, uns x = u := ⟨_, rfl⟩
        have hub := uns_bd b1 b2
        rw [hu] at hub
        obtain ⟨u1, u2⟩ := hub
        have HU := Lib.hid hu
        have HX := Lib.hid hx
        have HH := Lib.hid (hld_in b1 b2)
        clear hx hu
        generalize sm (fun i => uns (y i)) k = s at *
        go_wp2_with (first
          | (go_at_call 20; (with_reducible refine (held_as x 8 x _ (by omega) (by omega) HH.out).mono ?_); rintro e w' ⟨rfl, rfl⟩)
          | (go_at_call 19; (with_reducible refine (unsigned_as x u _ (by omega) (by omega) HU.out).mono ?_); rintro e w' ⟨rfl, rfl⟩))
        go_round
        case rel => exact ⟨k + 1, by omega, by go_num, by rw [HS.out, HX.out, HU.out], Lib.hid (by rw [HO.out, HK.out, HX.out]; simp; omega)⟩
        case measure => simp [intOf]; omega
      · have HZ := Lib.hid (cnt_bad (y := y) hlt hb)
        obtain ⟨x, hx⟩ : ∃ x, y k = x := ⟨_, rfl⟩
        rw [hx] at c0 hb
        have HX := Lib.hid hx
        obtain ⟨z, hz⟩ : ∃ z, hld x 8 = z := ⟨_, rfl⟩
        have ho := hld_out hb
        rw [hz] at ho
        have HH := Lib.hid hz
        clear hx hz hb
        generalize sm (fun i => uns (y i)) k = s at *
        go_wp2_with (first
          | (go_at_call 20; (with_reducible refine (held_as x 8 z _ (by omega) (by omega) HH.out).mono ?_); rintro e w' ⟨rfl, rfl⟩))
        go_ret
        exact ⟨ret_int HZ.out.symm, rfl⟩
    · obtain rfl : k = n := by omega
      have HE := Lib.hid (cnt_ok h8 HK.out)
      go_wp2
      go_ret
      exact ⟨ret_int HE.out.symm, rfl⟩

theorem count_long (a : Option Addr) (n c : Nat) (w : World) (h : 8 < n) (hm : n ≤ maxLen) :
    Calls Tryd.prog 22 #[.slice a n c] w fun e w' => e = .returned (.int .i64 0) ∧ w = w' := by
  unfold maxLen at hm
  go_enter Tryd.func22, Tryd.ntmps22
  go_wp2
  go_ret
  exact ⟨rfl, rfl⟩

theorem count_any (a : Option Addr) (n c : Nat) (y : Nat → Int) (w : World) (hS : Sl .i64 w a n c y) :
    Calls Tryd.prog 22 #[.slice a n c] w fun e w' => e = .returned (.int .i64 (cnt y n)) ∧ w = w' := by
  by_cases h8 : n ≤ 8
  · by_cases h0 : n = 0
    · subst h0
      exact count_none a c w
    · obtain ⟨b, o, rfl, hc⟩ := hS.2.2 (by omega)
      exact count_some b o n c y w h8 hc
  · have e : cnt y n = 0 := by unfold cnt; rw [if_neg (by omega)]
    rw [e]
    exact count_long a n c w (by omega) (Nat.le_trans hS.1 hS.2.1)
end Go.Proofs.YtlnmpgbknalagaaDoor.Lv
