/- Contract of level's Fill. -/
import Derived.Test.YtlnmpgbknalagaaDoorLvC
namespace Go.Proofs.YtlnmpgbknalagaaDoor.Lv
open Go.RowKit Go.Proofs.YtlnmpgbknalagaaDoor.Row

set_option maxHeartbeats 400000 in
theorem fill_off (l : Int) (a : Option Addr) (n c : Nat) (y : Nat → Int) (w : World) (hS : Sl .i64 w a n c y) (hn : n ≤ 1000) (h : l < 1 ∨ 20 < l ∨ cnt y n = 0) :
    Calls Tryd.prog 14 #[.int .i64 l, .slice a n c] w fun e w' => RetRow w w' e n (fl l y n) := by
  have N0 := Lib.hid (At.new w (rowL n (fl l y n) 0) 3)
  have B0 := Lib.hid ((Below.refl w.heap.size w).alloc (Nat.le_refl _) (.cells (rowL n (fl l y n) 0) 3))
  have S0 := Lib.hid (hS.below B0.out)
  have RZ := Lib.hid ((rowL_is n (fl l y n)).ext fun k _ => (fl_off h k).symm)
  obtain ⟨K, hK⟩ : ∃ K, cnt y n = K := ⟨_, rfl⟩
  obtain ⟨k1, k2⟩ := cnt_bd y n
  rw [hK] at k1 k2 h
  have HK := Lib.hid (hK ▸ fun w hS => count_any a n c y w hS : ∀ w, Sl .i64 w a n c y → Calls Tryd.prog 22 #[.slice a n c] w fun e w' => e = .returned (.int .i64 K) ∧ w = w')
  clear hK hS
  by_cases c1 : l < 1
  · clear h
    go_enter Tryd.func14, Tryd.ntmps14
    go_wp2_with (first
      | (at_make; refine wpList_make_rowL (fl l y n) rfl _ _ rfl n _ _ rfl rfl (by omega) ?_)
      | (go_at_call 22; (with_reducible refine (HK.out _ S0.out).mono ?_); rintro e w' ⟨rfl, rfl⟩))
    go_ret
    exact ⟨w.heap.size, _, rfl, Nat.le_refl _, RZ.out, N0.out, B0.out⟩
  · by_cases c2 : 20 < l
    · clear h
      go_enter Tryd.func14, Tryd.ntmps14
      go_wp2_with (first
        | (at_make; refine wpList_make_rowL (fl l y n) rfl _ _ rfl n _ _ rfl rfl (by omega) ?_)
        | (go_at_call 22; (with_reducible refine (HK.out _ S0.out).mono ?_); rintro e w' ⟨rfl, rfl⟩))
      go_ret
      exact ⟨w.heap.size, _, rfl, Nat.le_refl _, RZ.out, N0.out, B0.out⟩
    · obtain rfl : K = 0 := by omega
      clear h
      go_enter Tryd.func14, Tryd.ntmps14
      go_wp2_with (first
        | (at_make; refine wpList_make_rowL (fl l y n) rfl _ _ rfl n _ _ rfl rfl (by omega) ?_)
        | (go_at_call 22; (with_reducible refine (HK.out _ S0.out).mono ?_); rintro e w' ⟨rfl, rfl⟩))
      go_ret
      exact ⟨w.heap.size, _, rfl, Nat.le_refl _, RZ.out, N0.out, B0.out⟩

/-- What holds while the waves are filled in. -/
def FillS (w : World) (n : Nat) (g : Nat → Int) (k : Nat) (w' : World) : Prop := Below w.heap.size w w' ∧ At w' w.heap.size (rowL n g k) 3
theorem FillS.put {w w' : World} {n k : Nat} {g : Nat → Int} (h : FillS w n g k w') (hk : k < n) : FillS w n g (k + 1) (w'.setCell ⟨w.heap.size, k, none⟩ (.int .i64 (g k))) :=
  ⟨h.1.setCell (Nat.le_refl _) _, h.2.put hk⟩
theorem FillS.start (w : World) (n : Nat) (g : Nat → Int) : FillS w n g 0 (w.alloc (.cells (rowL n g 0) 3)) := ⟨(Below.refl _ _).alloc (Nat.le_refl _) _, At.new _ _ _⟩

theorem cnt_pos {y : Nat → Int} {n : Nat} (h : cnt y n ≠ 0) : n ≤ 8 ∧ 0 < n ∧ ∀ i, i < n → -8 ≤ y i ∧ y i ≤ 8 := by
  unfold cnt at h
  by_cases hh : n ≤ 8 ∧ okY y n = true
  · rw [if_pos hh] at h
    refine ⟨hh.1, ?_, (okY_iff y n).1 hh.2⟩
    cases n with
    | zero => exact absurd rfl h
    | succ n => omega
  · rw [if_neg hh] at h; exact absurd rfl h

set_option maxHeartbeats 400000 in
theorem fill_on (l : Int) (b o n c : Nat) (y : Nat → Int) (w : World) (hS : Sl .i64 w (some ⟨b, o, none⟩) n c y) (hc : ∀ i, i < n → w.cell? ⟨b, o + i, none⟩ = some (.int .i64 (y i))) (h : ¬ (l < 1 ∨ 20 < l ∨ cnt y n = 0)) :
    Calls Tryd.prog 14 #[.int .i64 l, .slice (some ⟨b, o, none⟩) n c] w fun e w' => RetRow w w' e n (fl l y n) := by
  obtain ⟨h8, h0, hy⟩ := cnt_pos (y := y) (n := n) (by omega)
  have F0 := Lib.hid (FillS.start w n (fl l y n))
  have S0 := Lib.hid (hS.below F0.out.1)
  have HY := Lib.hid hy
  have HC := Lib.hid hc
  have HF := Lib.hid (fun i => fl_on h i)
  have l1 : 1 ≤ l := by omega
  have l2 : l ≤ 20 := by omega
  obtain ⟨K, hK⟩ : ∃ K, cnt y n = K := ⟨_, rfl⟩
  obtain ⟨k1, k2⟩ := cnt_bd y n
  have hk0 : cnt y n ≠ 0 := by omega
  rw [hK] at k1 k2 HF hk0
  have k3 : 1 ≤ K := by omega
  have k4 : (K == 0) = false := by rw [beq_eq_false_iff_ne]; exact hk0
  have hq0 : ¬ 4 * K = 0 := by omega
  have HK := Lib.hid (hK ▸ fun w hS => count_any (some ⟨b, o, none⟩) n c y w hS : ∀ w, Sl .i64 w (some ⟨b, o, none⟩) n c y → Calls Tryd.prog 22 #[.slice (some ⟨b, o, none⟩) n c] w fun e w' => e = .returned (.int .i64 K) ∧ w = w')
  obtain ⟨p1, p2⟩ := pow_bd (show l.toNat ≤ 20 by omega)
  simp only [Int.reducePow] at p2
  obtain ⟨p, hp⟩ : ∃ p : Int, 2 ^ l.toNat = p := ⟨_, rfl⟩
  have HP := Lib.hid hp
  rw [hp] at p1 p2
  clear hK hS hy hc h k1 hk0
  go_enter Tryd.func14, Tryd.ntmps14
  go_wp2_with (first
    | (at_make; refine wpList_make_rowL (fl l y n) rfl _ _ rfl n _ _ rfl rfl (by omega) ?_)
    | (go_at_call 22; (with_reducible refine (HK.out _ S0.out).mono ?_); rintro e w' ⟨rfl, rfl⟩))
  go_ways
  go_loopw [27] (fun i w' => ∃ k : Nat, k ≤ n ∧ i = .int .i64 k ∧ FillS w n (fl l y n) k w') (fun i _ => n - (intOf i).toNat)
  case atStart => exact ⟨0, Nat.zero_le _, rfl, F0.out⟩
  case round =>
    obtain ⟨k, hk, rfl, hf⟩ := hrel
    have HS := Lib.hid hf
    clear hf
    by_cases hlt : k < n
    · have c0 := (Below.cell HS.out.1 (block_lt_of_cell (HC.out k hlt))).trans (HC.out k hlt)
      have c1 := rowL_cell HS.out.2 k hlt
      have f1 := HS.out.2.frozen k
      obtain ⟨y1, y2⟩ := HY.out k hlt
      have HV := HF.out k
      obtain ⟨x, hx⟩ : ∃ x, y k = x := ⟨_, rfl⟩
      rw [hx] at c0 y1 y2 HV
      obtain ⟨m1, m2⟩ := mul_bd x (3 * p) 8 3145728 y1 y2 (by omega) (by omega)
      simp only [Int.reduceMul, Int.reduceNeg] at m1 m2
      have HR := Lib.hid (show fl l y n k = (x * (3 * p)).tdiv (4 * K) by rw [HV]; unfold flv; rw [HP.out])
      have hq : -25165824 ≤ (x * (3 * p)).tdiv (4 * K) ∧ (x * (3 * p)).tdiv (4 * K) ≤ 25165824 := by
        have e := Int.natAbs_tdiv (x * (3 * p)) (4 * K)
        have : (x * (3 * p)).natAbs.div (4 * K).natAbs ≤ (x * (3 * p)).natAbs := Nat.div_le_self _ _
        omega
      obtain ⟨q1, q2⟩ := hq
      clear hx HV
      go_wp2
      go_roundw
      case rel => exact ⟨k + 1, by omega, by go_num, by rw [← HR.out]; exact HS.out.put hlt⟩
      case measure => simp [intOf]; omega
    · obtain rfl : k = n := by omega
      go_wp2
      go_ret
      exact ⟨w.heap.size, _, rfl, Nat.le_refl _, isRow _ _, HS.out.2, HS.out.1⟩

theorem fill_any (l : Int) (a : Option Addr) (n c : Nat) (y : Nat → Int) (w : World) (hS : Sl .i64 w a n c y) (hn : n ≤ 1000) :
    Calls Tryd.prog 14 #[.int .i64 l, .slice a n c] w fun e w' => RetRow w w' e n (fl l y n) := by
  by_cases h : l < 1 ∨ 20 < l ∨ cnt y n = 0
  · exact fill_off l a n c y w hS hn h
  · obtain ⟨h8, h0, _⟩ := cnt_pos (y := y) (n := n) (by omega)
    obtain ⟨b, o, rfl, hc⟩ := hS.2.2 h0
    exact fill_on l b o n c y w hS hc h
end Go.Proofs.YtlnmpgbknalagaaDoor.Lv
