/- Texts of the walk, one behind the other. -/
import Derived.Test.YtimhemcoflpmcaaGreatDoorDecPlaysM29
import Derived.Test.YtimhemcoflpmcaaGreatDoorDecPlaysM1

section
/- Contract of the document's Fill. -/
set_option maxRecDepth 100000
set_option linter.unusedVariables false
namespace Go.Proofs.YtimhemcoflpmcaaGreatDoor.Lv
open Go.RowKit Go.Proofs.YtimhemcoflpmcaaGreatDoor.Row

theorem FillS.drew {w w' : World} {n k : Nat} {g : Nat → Int} (h : FillS w n g k w') : FillS w n g k w'.drew := ⟨h.1.drew, h.2⟩

theorem sz_uns {x : Int} (h1 : -8 ≤ x) (h2 : x ≤ 8) : sz x = uns x := by unfold sz uns; rw [if_neg (by omega)]; split <;> omega

theorem cell1 {w : World} {a p : Addr} {v x : Value} (h : w.cell? p = some x) (hp : p.block ≠ a.block) : (w.setCell a v).drew.cell? p = some x := (cell_set_other w a p v hp).trans h

set_option maxHeartbeats 400000 in
theorem refFill_some (l : Int) (b o n c : Nat) (y : Nat → Int) (w : World) (hc : ∀ i, i < n → w.cell? ⟨b, o + i, none⟩ = some (.int .i64 (y i))) (hb : b < w.heap.size) (h8 : n ≤ 8) (hy : okY y n = true) (l0 : 0 ≤ l) (l2 : l ≤ 20) :
    Calls Tryz.prog 34 #[.int .i64 l, .slice (some ⟨b, o, none⟩) n c] w fun e w' => RetRow w w' e n (fl l y n) := by
  have HC := Lib.hid hc
  have HY := Lib.hid hy
  have HK := Lib.hid (cnt_ok h8 hy)
  have HZ := Lib.hid (rowL_is n (fl l y n))
  have F0 := Lib.hid (FillS.start w n (fl l y n))
  clear hc hy
  go_enter Tryz.func34, Tryz.ntmps34
  go_wp2
  go_loop [5, 6] (fun s i => ∃ k : Nat, k ≤ n ∧ i = .int .i64 k ∧ s = .int .i64 (sm (fun i => uns (y i)) k)) (fun _ i => n - (intOf i).toNat)
  case atStart => exact ⟨0, Nat.zero_le _, rfl, rfl⟩
  case round =>
    obtain ⟨k, hk, rfl, rfl⟩ := hrel
    have hyk : okY y k = true := (okY_iff y k).2 fun i hi => (okY_iff y n).1 HY.out i (by omega)
    obtain ⟨s1, s2⟩ := smu_bd y k hyk
    clear hyk
    by_cases hlt : k < n
    · have c0 := HC.out k hlt
      have HS := Lib.hid (show sm (fun i => uns (y i)) (k + 1) = sm (fun i => uns (y i)) k + uns (y k) from rfl)
      obtain ⟨b1, b2⟩ := (okY_iff y n).1 HY.out k hlt
      obtain ⟨x, hx⟩ : ∃ x, y k = x := ⟨_, rfl⟩
      rw [hx] at c0 b1 b2 HS
      obtain ⟨u1, u2⟩ := uns_bd b1 b2
      have e := sz_uns b1 b2
      obtain ⟨u, hu⟩ : ∃ u, uns x = u := ⟨_, rfl⟩
      rw [hu] at u1 u2 e HS
      have HU := Lib.hid e
      clear hx hu e
      generalize sm (fun i => uns (y i)) k = s at *
      go_wp2_with (go_at_call 57; (with_reducible refine (refSize_as x u _ HU.out).mono ?_); rintro e w' ⟨rfl, rfl⟩)
      go_round
      case rel => exact ⟨k + 1, by omega, by go_num, by rw [HS.out]⟩
      case measure => simp [intOf]; omega
    · obtain rfl : k = n := by omega
      obtain ⟨K, hK⟩ : ∃ K, sm (fun i => uns (y i)) k = K := ⟨_, rfl⟩
      rw [hK] at s1 s2 HK
      rw [hK]
      clear hK hk hlt
      by_cases hoff : l = 0 ∨ K = 0
      · have HX := Lib.hid (HZ.out.ext fun j _ => (fl_off (l := l) (y := y) (n := k) (by rw [HK.out]; omega) j).symm)
        by_cases hk0 : k = 0
        · subst hk0
          go_wp2_with (at_make; refine wpList_make_rowL (fl l y 0) rfl _ _ rfl 0 _ _ rfl rfl (by omega) ?_)
          refine wp_loop_rounds 1 ?_
          rw [rounds_succ]
          go_wp2
          go_ret
          exact ⟨w.heap.size, _, rfl, Nat.le_refl _, HX.out, F0.out.2, F0.out.1⟩
        · by_cases hK0 : K = 0
          · subst hK0
            clear hoff
            go_wp2_with (at_make; refine wpList_make_rowL (fl l y k) rfl _ _ rfl k _ _ rfl rfl (by omega) ?_)
            refine wp_loop_rounds 1 ?_
            rw [rounds_succ]
            go_wp2
            go_ret
            exact ⟨w.heap.size, _, rfl, Nat.le_refl _, HX.out, F0.out.2, F0.out.1⟩
          · obtain rfl : l = 0 := by omega
            have hKp : 0 < K := by omega
            clear hoff hK0
            go_wp2_with (at_make; refine wpList_make_rowL (fl 0 y k) rfl _ _ rfl k _ _ rfl rfl (by omega) ?_)
            refine wp_loop_rounds 1 ?_
            rw [rounds_succ]
            go_wp2
            go_ret
            exact ⟨w.heap.size, _, rfl, Nat.le_refl _, HX.out, F0.out.2, F0.out.1⟩
      · have hl1 : 0 < l := by omega
        have hKp : 0 < K := by omega
        have hK8 : K ≤ 64 := by omega
        have HF := Lib.hid (fun i => fl_on (l := l) (y := y) (n := k) (by rw [HK.out]; omega) i)
        rw [HK.out] at HF
        have hq0 : ¬ 4 * K = 0 := by omega
        obtain ⟨p1, p2⟩ := pow_bd (show l.toNat ≤ 20 by omega)
        simp only [Int.reducePow] at p2
        obtain ⟨p, hp⟩ : ∃ p : Int, 2 ^ l.toNat = p := ⟨_, rfl⟩
        have HP := Lib.hid hp
        rw [hp] at p1 p2
        clear hoff s1 s2 hp HK
        go_wp2_with (at_make; refine wpList_make_rowL (fl l y k) rfl _ _ rfl k _ _ rfl rfl (by omega) ?_)
        go_loopw [8] (fun i w' => ∃ j : Nat, j ≤ k ∧ i = .int .i64 j ∧ FillS w k (fl l y k) j w') (fun i _ => k - (intOf i).toNat)
        case atStart => exact ⟨0, Nat.zero_le _, rfl, F0.out⟩
        case round =>
          obtain ⟨j, hj, rfl, hf⟩ := hrel
          have HS := Lib.hid hf
          clear hf
          by_cases hlt : j < k
          · have c0 := (Below.cell HS.out.1 (block_lt_of_cell (HC.out j hlt))).trans (HC.out j hlt)
            have c1 := rowL_cell HS.out.2 j hlt
            have f1 := HS.out.2.frozen j
            obtain ⟨y1, y2⟩ := (okY_iff y k).1 HY.out j hlt
            have HV := HF.out j
            obtain ⟨x, hx⟩ : ∃ x, y j = x := ⟨_, rfl⟩
            rw [hx] at c0 y1 y2 HV
            obtain ⟨m1, m2⟩ := mul_bd (x * 3) p 24 1048576 (by omega) (by omega) (by omega) (by omega)
            simp only [Int.reduceMul, Int.reduceNeg] at m1 m2
            have HR := Lib.hid (show fl l y k j = (x * 3 * p).tdiv (4 * K) by rw [HV]; unfold flv; rw [HP.out, Int.mul_assoc])
            have hq : -25165824 ≤ (x * 3 * p).tdiv (4 * K) ∧ (x * 3 * p).tdiv (4 * K) ≤ 25165824 := by
              have e := Int.natAbs_tdiv (x * 3 * p) (4 * K)
              have : (x * 3 * p).natAbs.div (4 * K).natAbs ≤ (x * 3 * p).natAbs := Nat.div_le_self _ _
              omega
            obtain ⟨q1, q2⟩ := hq
            have j1 : (j : Int) < (k : Int) := by omega
            have j0 : (0 : Int) ≤ (j : Int) := by omega
            have hbw : ¬ b = w.heap.size := by omega
            have hw1 : IntKind.i64.wrap (x * 3) = x * 3 := IntWalk.i64_in _ (by omega)
            have hw2 : IntKind.i64.wrap (x * 3 * p) = x * 3 * p := IntWalk.i64_in _ (by omega)
            have hw3 : IntKind.i64.wrap (4 * K) = 4 * K := IntWalk.i64_in _ (by omega)
            have hw4 : IntKind.i64.wrap ((x * 3 * p).tdiv (4 * K)) = (x * 3 * p).tdiv (4 * K) := IntWalk.i64_in _ (by omega)
            have hK0 : ¬ K = 0 := by omega
            have hK1 : (K == 0) = false := by rw [beq_eq_false_iff_ne]; exact hK0
            have hK2 : (4 * K == 0) = false := by rw [beq_eq_false_iff_ne]; exact hq0
            clear hx HV
            go_wp2_with fail
            go_region_held3 (fun w' => w'.cell? ⟨b, o + j, none⟩ = some (.int .i64 x)) (first | assumption | exact c0 | exact cell1 c0 (by dsimp only; omega))
              (first | (go_at_call 31; (with_reducible refine (Ref01.pow_as l p _ (by omega) (by omega) HP.out).mono ?_); rintro e w' ⟨rfl, rfl⟩))
            go_wp2
            go_roundw
            case rel => exact ⟨j + 1, by omega, by go_num, by rw [← HR.out]; exact (HS.out.put hlt).drew⟩
            case measure => simp [intOf]; omega
          · obtain rfl : j = k := by omega
            go_wp2
            go_ret
            exact ⟨w.heap.size, _, rfl, Nat.le_refl _, isRow _ _, HS.out.2, HS.out.1⟩

theorem refFill_none (l : Int) (a : Option Addr) (c : Nat) (y : Nat → Int) (w : World) :
    Calls Tryz.prog 34 #[.int .i64 l, .slice a 0 c] w fun e w' => RetRow w w' e 0 (fl l y 0) := by
  have HX := Lib.hid ((rowL_is 0 (fl l y 0)).ext (g := fl l y 0) fun j hj => absurd hj (Nat.not_lt_zero j))
  have F0 := Lib.hid (FillS.start w 0 (fl l y 0))
  go_enter Tryz.func34, Tryz.ntmps34
  go_wp2
  refine wp_loop_rounds 1 ?_
  rw [rounds_succ]
  go_wp2_with (at_make; refine wpList_make_rowL (fl l y 0) rfl _ _ rfl 0 _ _ rfl rfl (by omega) ?_)
  refine wp_loop_rounds 1 ?_
  rw [rounds_succ]
  go_wp2
  go_ret
  exact ⟨w.heap.size, _, rfl, Nat.le_refl _, HX.out, F0.out.2, F0.out.1⟩

theorem refFill_any (l : Int) (a : Option Addr) (n c : Nat) (y : Nat → Int) (w : World) (hS : Sl .i64 w a n c y) (h8 : n ≤ 8) (hy : okY y n = true) (l0 : 0 ≤ l) (l2 : l ≤ 20) :
    Calls Tryz.prog 34 #[.int .i64 l, .slice a n c] w fun e w' => RetRow w w' e n (fl l y n) := by
  by_cases h0 : n = 0
  · subst h0; exact refFill_none l a c y w
  · obtain ⟨b, o, rfl, hc⟩ := hS.2.2 (by omega)
    exact refFill_some l b o n c y w hc (block_lt_of_cell (hc 0 (by omega))) h8 hy l0 l2
end Go.Proofs.YtimhemcoflpmcaaGreatDoor.Lv
end
