/- Contracts: the closures of mdct.Waves and mdct.Back. -/
import Derived.Test.YtabenllglldkkaaMdD
namespace Go.Proofs.Ytabenllglldkkaa.Md
open Go.RowKit Go.Proofs.Ytabenllglldkkaa.Ang

theorem turn_as (n k i : Nat) (w : World) (hn : n < 32) (hk : k < 16) (h : (2 * n + 17) * (2 * k + 1) % 128 = i) :
    Calls Try.prog 22 #[.int .i64 n, .int .i64 k] w fun e w' => e = .returned (.int .i64 (i : Int)) ∧ w = w' := by
  subst h; exact turn_any n k w hn hk

set_option maxRecDepth 100000 in
set_option maxHeartbeats 1000000 in
theorem gather_any (T V : Array Value) (p : Nat → Int) (k bx bc : Nat) (w : World) (hk : k < 16) (hT : IsRow 32 p T) (hV : IsRow 128 tabS V) (hp : ∀ n, n < 32 → ab (p n) ≤ 1048576)
    (h1 : At w bx T 35) (h2 : At w bc V 40) :
    Calls Try.prog 26 #[.int .i64 k, .pointer (some ⟨bx, 0, none⟩), .pointer (some ⟨bc, 0, none⟩)] w fun e w' => e = .returned (.int .i64 (sum 32 fun n => p n * cS n k)) ∧ w = w' := by
  obtain ⟨Z, hZ, hZ0, hz, hi⟩ := zero_32
  have HT := Lib.hid hT
  have HV := Lib.hid hV
  have HP := Lib.hid hp
  have H1 := Lib.hid h1
  have H2 := Lib.hid h2
  have HI := Lib.hid hi
  clear hT hV hp h1 h2 hi hZ hZ0 hz
  go_enter Try.func26, Try.ntmps26
  go_wp2_with (refine wpList_load_row rfl 35 _ rfl bx rfl _ _ (0, 0) _ H1.out Try.underlying35 rfl (HI.out _ HT.out.1) ?_)
  go_loop [5, 9] (fun s i => ∃ n : Nat, n ≤ 32 ∧ i = .int .i64 n ∧ s = .int .i64 (sum n fun n => p n * cS n k)) (fun _ i => 32 - (intOf i).toNat)
  case atStart => exact ⟨0, Nat.zero_le _, rfl, rfl⟩
  case round =>
    obtain ⟨n, hn, rfl, rfl⟩ := hrel
    obtain ⟨s1, s2⟩ := le_ab (sum_ab n (fun n => p n * cS n k) (1048576 * 32768) fun i hi => ab_prod (HP.out i (by omega)) (c_bd i k))
    by_cases hn32 : n < 32
    · have hc := HT.out.2.2 n hn32
      obtain ⟨i, hi⟩ : ∃ i, (2 * n + 17) * (2 * k + 1) % 128 = i := ⟨_, rfl⟩
      have hi1 : i < 128 := by omega
      have cV := HV.out.cell H2.out i hi1
      obtain ⟨x, hx⟩ : ∃ x, p n = x := ⟨_, rfl⟩
      obtain ⟨c, hcc⟩ : ∃ c, tabS i = c := ⟨_, rfl⟩
      obtain ⟨q1, q2⟩ := le_ab (ab_prod (HP.out n hn32) (c_bd n k))
      have hcs : cS n k = c := by unfold cS; rw [hi]; exact hcc
      rw [hx] at hc
      rw [hcc] at cV
      rw [hx, hcs] at q1 q2
      have hr := run_index Try.underlying35 hn32 hc
      have HS := Lib.hid (show sum (n + 1) (fun n => p n * cS n k) = sum n (fun n => p n * cS n k) + x * c by rw [sum, hx, hcs])
      have HK := Lib.hid hi
      generalize sum n (fun n => p n * cS n k) = s at *
      simp only [Int.reduceMul] at q1 q2 s1 s2
      have i1 : (i : Int) < 128 := by omega
      clear hc hx hcc hcs hi
      go_wp2_with (go_at_call 22; (with_reducible refine (turn_as n k i _ hn32 hk HK.out).mono ?_); rintro e w' ⟨rfl, rfl⟩)
      go_round
      case rel => exact ⟨n + 1, by omega, by go_num, by rw [HS.out]⟩
      case measure => simp [intOf]; omega
    · obtain rfl : n = 32 := by omega
      go_wp2
      go_ret
      exact ⟨rfl, rfl⟩

set_option maxRecDepth 100000 in
set_option maxHeartbeats 1000000 in
theorem gatherB_any (T V : Array Value) (f : Nat → Int) (n bx bc : Nat) (w : World) (hn : n < 32) (hT : IsRow 16 f T) (hV : IsRow 128 tabS V) (hf : Le 1048576 f)
    (h1 : At w bx T 24) (h2 : At w bc V 40) :
    Calls Try.prog 21 #[.int .i64 n, .pointer (some ⟨bx, 0, none⟩), .pointer (some ⟨bc, 0, none⟩)] w fun e w' => e = .returned (.int .i64 (uS f n 16)) ∧ w = w' := by
  obtain ⟨Z, hZ, hZ0, hz, hi⟩ := zero_block
  have HT := Lib.hid hT
  have HV := Lib.hid hV
  have HP := Lib.hid hf
  have H1 := Lib.hid h1
  have H2 := Lib.hid h2
  have HI := Lib.hid hi
  clear hT hV hf h1 h2 hi hZ hZ0 hz
  unfold uS
  go_enter Try.func21, Try.ntmps21
  go_wp2_with (refine wpList_load_row rfl 24 _ rfl bx rfl _ _ (0, 0) _ H1.out Try.underlying24 rfl (HI.out _ HT.out.1) ?_)
  go_loop [5, 9] (fun s i => ∃ k : Nat, k ≤ 16 ∧ i = .int .i64 k ∧ s = .int .i64 (sum k fun k => f k * cS n k)) (fun _ i => 16 - (intOf i).toNat)
  case atStart => exact ⟨0, Nat.zero_le _, rfl, rfl⟩
  case round =>
    obtain ⟨k, hk, rfl, rfl⟩ := hrel
    obtain ⟨s1, s2⟩ := le_ab (sum_ab k (fun k => f k * cS n k) (1048576 * 32768) fun i hi => ab_prod (HP.out i (by omega)) (c_bd n i))
    by_cases hk16 : k < 16
    · have hc := HT.out.2.2 k hk16
      obtain ⟨i, hi⟩ : ∃ i, (2 * n + 17) * (2 * k + 1) % 128 = i := ⟨_, rfl⟩
      have hi1 : i < 128 := by omega
      have cV := HV.out.cell H2.out i hi1
      obtain ⟨x, hx⟩ : ∃ x, f k = x := ⟨_, rfl⟩
      obtain ⟨c, hcc⟩ : ∃ c, tabS i = c := ⟨_, rfl⟩
      obtain ⟨q1, q2⟩ := le_ab (ab_prod (HP.out k hk16) (c_bd n k))
      have hcs : cS n k = c := by unfold cS; rw [hi]; exact hcc
      rw [hx] at hc
      rw [hcc] at cV
      rw [hx, hcs] at q1 q2
      have hr := run_index Try.underlying24 hk16 hc
      have HS := Lib.hid (show sum (k + 1) (fun k => f k * cS n k) = sum k (fun k => f k * cS n k) + x * c by rw [sum, hx, hcs])
      have HK := Lib.hid hi
      generalize sum k (fun k => f k * cS n k) = s at *
      simp only [Int.reduceMul] at q1 q2 s1 s2
      have i1 : (i : Int) < 128 := by omega
      clear hc hx hcc hcs hi
      go_wp2_with (go_at_call 22; (with_reducible refine (turn_as n k i _ hn hk16 HK.out).mono ?_); rintro e w' ⟨rfl, rfl⟩)
      go_round
      case rel => exact ⟨k + 1, by omega, by go_num, by rw [HS.out]⟩
      case measure => simp [intOf]; omega
    · obtain rfl : k = 16 := by omega
      go_wp2
      go_ret
      exact ⟨rfl, rfl⟩
end Go.Proofs.Ytabenllglldkkaa.Md
