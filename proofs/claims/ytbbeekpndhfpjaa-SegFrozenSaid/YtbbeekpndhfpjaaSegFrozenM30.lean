/- Texts of the walk, one behind the other. -/
import Derived.Test.YtbbeekpndhfpjaaSegFrozenM24
import Derived.Test.YtbbeekpndhfpjaaSegFrozenM29
import Derived.Test.YtbbeekpndhfpjaaSegFrozenM21

section
/- SgA: contracts of seg's leads, segment, whole, Need. -/
set_option maxRecDepth 100000
set_option linter.unusedVariables false
set_option linter.unusedSimpArgs false
namespace Go.Proofs.Ytbbeekpndhfpjaa.Sg
open Go.RowKit Go.Proofs.Ytbbeekpndhfpjaa.Row Go.Proofs.Ytbbeekpndhfpjaa.Pa Go.Proofs.Ytbbeekpndhfpjaa.Fg Go.Proofs.Ytbbeekpndhfpjaa.Dk Go.Proofs.Ytbbeekpndhfpjaa.Crc

theorem leads_as (n : Nat) (w : World) (hn : n ≤ 1000000) :
    Calls Try.prog 31 #[.int .i64 n] w fun e w' => e = .returned (.bool (decide (n % 16 = 0))) ∧ w' = w := by
  have e1 : ((n : Int).tmod 16 == 0) = decide (n % 16 = 0) := by
    rw [Int.tmod_eq_emod_of_nonneg (by omega)]
    by_cases h : n % 16 = 0
    · rw [decide_eq_true h, beq_iff_eq]; omega
    · rw [decide_eq_false h, beq_eq_false_iff_ne]; omega
  go_enter Try.func31, Try.ntmps31
  go_wp2
  go_ret
  exact ⟨rb (by first | exact e1 | simp [e1] | simp), rfl⟩

theorem segment_as (n : Nat) (w : World) (hn : n ≤ 1000000) :
    Calls Try.prog 48 #[.int .i64 n] w fun e w' => e = .returned (.string (tx (fourL (n / 16)))) ∧ Below w.heap.size w w' := by
  have HF := Lib.hid (four_as (n / 16) w (by omega))
  have e1 : (n : Int).tdiv 16 = ((n / 16 : Nat) : Int) := by rw [Int.tdiv_eq_ediv_of_nonneg (by omega)]; omega
  have j1 : ((n / 16 : Nat) : Int) < 4294967296 := by omega
  go_enter Try.func48, Try.ntmps48
  go_wp2_with fail
  refine HF.out.mono ?_
  rintro e w1 ⟨_, rfl, rfl, hb⟩
  go_wp2
  go_ret
  exact ⟨rfl, hb⟩

theorem nd_head {c N : Nat} (h : N % 16 = 0) : nd (c + 1) N = nd c (N + 2) + 2 := if_pos h
theorem nd_data {c N : Nat} (h : N % 16 ≠ 0) : nd (c + 1) N = nd c (N + 1) + 1 := if_neg h
theorem nd_mod : ∀ c N M, N % 16 = M % 16 → nd c N = nd c M
  | 0, _, _, _ => rfl
  | c + 1, N, M, h => by
    by_cases h0 : N % 16 = 0
    · rw [nd_head h0, nd_head (by omega), nd_mod c (N + 2) (M + 2) (by omega)]
    · rw [nd_data h0, nd_data (by omega), nd_mod c (N + 1) (M + 1) (by omega)]
theorem ndN_pg (next size : Nat) : ndN next size = nd (pgN size) next := by
  unfold ndN pgN
  split <;> rfl
theorem pgN_le (n : Nat) : pgN n ≤ 84 := by
  unfold pgN np
  split <;> omega

set_option maxHeartbeats 1000000 in
theorem need_any (next size : Nat) (w : World) (hn : next ≤ 1000000) (hs : size ≤ maxLen) :
    Calls Try.prog 20 #[.int .i64 next, .int .i64 size] w fun e w' => e = .returned (.int .i64 (ndN next size : Nat)) ∧ Below w.heap.size w w' := by
  have HP := Lib.hid (pagesAs size w hs)
  have hc := pgN_le size
  rw [ndN_pg]
  unfold maxLen at hs
  obtain ⟨c, hcc⟩ : ∃ c, pgN size = c := ⟨_, rfl⟩
  rw [hcc] at hc HP ⊢
  obtain ⟨s, hss⟩ : ∃ s, next % 16 = s := ⟨_, rfl⟩
  have hs16 : s < 16 := by omega
  have HN := Lib.hid (show nd c next = nd c s from nd_mod c next s (by omega))
  rw [HN.out]
  have e1 : (next : Int).tmod 16 = (s : Int) := by rw [Int.tmod_eq_emod_of_nonneg (by omega)]; omega
  clear hcc hss
  obtain ⟨D, hD⟩ : ∃ D, nd c s = D := ⟨_, rfl⟩
  have HD := Lib.hid hD
  have hD2 : D ≤ 168 := by have := nd_le c s; omega
  rw [hD]
  clear hD HN
  go_enter Try.func20, Try.ntmps20
  go_wp2_with fail
  refine HP.out.mono ?_
  rintro e w1 ⟨rfl, hb⟩
  have HB := Lib.hid hb
  clear hb
  go_wp2_with fail
  go_loopw [6, 14] (fun h i w' => ∃ m k : Nat, k ≤ c ∧ h = .int .i64 m ∧ i = .int .i64 k ∧ w' = w1 ∧ Hid (m + nd (c - k) m = s + D)) (fun _ i _ => 5000 - (intOf i).toNat)
  case atStart => exact ⟨s, 0, Nat.zero_le _, rfl, rfl, rfl, Lib.hid (by rw [Nat.sub_zero, HD.out])⟩
  case round =>
    obtain ⟨m, k, hk, rfl, rfl, rfl, hr⟩ := hrel
    have hm : m ≤ 200 := by have := hr.out; omega
    by_cases hlt : k < c
    · have hd1 : decide ((k : Int) < (c : Int)) = true := decide_eq_true (by omega)
      have hr2 := hr.out
      rw [show c - k = (c - (k + 1)) + 1 by omega] at hr2
      have HL := Lib.hid fun w => leads_as m w (by omega)
      by_cases h16 : m % 16 = 0
      · rw [decide_eq_true h16] at HL
        rw [nd_head h16] at hr2
        have HR := Lib.hid (show m + 2 + nd (c - (k + 1)) (m + 2) = s + D by omega)
        clear hr hr2
        go_wp2_with fail
        refine (HL.out _).mono ?_
        rintro e w2 ⟨rfl, rfl⟩
        go_wp2_with fail
        go_roundw
        case rel => exact ⟨m + 2, k + 1, by omega, by go_num, by go_num, trivial, HR⟩
        case measure => simp [intOf]; omega
      · rw [decide_eq_false h16] at HL
        rw [nd_data h16] at hr2
        have HR := Lib.hid (show m + 1 + nd (c - (k + 1)) (m + 1) = s + D by omega)
        clear hr hr2
        go_wp2_with fail
        refine (HL.out _).mono ?_
        rintro e w2 ⟨rfl, rfl⟩
        go_wp2_with fail
        go_roundw
        case rel => exact ⟨m + 1, k + 1, by omega, by go_num, by go_num, trivial, HR⟩
        case measure => simp [intOf]; omega
    · obtain rfl : k = c := by omega
      have hr2 := hr.out
      rw [Nat.sub_self] at hr2
      have hm2 : m = s + D := hr2
      clear hr hr2
      go_wp2_with fail
      go_ret
      exact ⟨Row.ret_int (by omega), HB.out⟩
theorem needAs : NeedAs := fun next size w h1 h2 => need_any next size w (by omega) (by unfold maxLen; omega)
/-- How many whole segments' sectors. -/
theorem whole_as {w w0 : World} {bd N n : Nat} {d : Dsk} {G : Nat → Prop} (h : DkL w0 bd N d G w) (hn : d.size = n) (h16 : n % 16 = 0) (h9 : n ≤ 1024) :
    Calls Try.prog 29 #[.pointer (some ⟨bd, 0, none⟩)] w fun e w' => e = .returned (.int .i64 n) ∧ w' = w := by
  have HS := size_L h
  rw [hn] at HS
  have HS := Lib.hid HS
  have e17 : (n : Int).tdiv 16 * 16 = n := by rw [Int.tdiv_eq_ediv_of_nonneg (by omega)]; omega
  have e16 : (n : Int) / 16 * 16 = n := by omega
  clear h hn
  go_enter Try.func29, Try.ntmps29
  go_wp2_with fail
  refine HS.out.mono ?_
  rintro e w1 ⟨rfl, rfl⟩
  go_wp2
  go_ret
  exact ⟨Row.ret_int (by first | exact e16 | exact e17 | simp [e16] | omega), rfl⟩
end Go.Proofs.Ytbbeekpndhfpjaa.Sg
end
