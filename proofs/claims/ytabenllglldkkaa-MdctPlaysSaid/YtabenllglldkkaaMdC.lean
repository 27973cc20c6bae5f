/- Contracts: mdct.Held. -/
import Derived.Test.YtabenllglldkkaaMdB
namespace Go.Proofs.Ytabenllglldkkaa.Md
open Go.RowKit Go.Proofs.Ytabenllglldkkaa.Ang

/-- A number out of a row by value. -/
theorem run_index {t : TypeId} {m k : Nat} {x : Int} {T : Array Value} (hu : Try.prog.underlying t = some (.array m 3)) (hk : k < m) (hc : T[k]? = some (.int .i64 x)) (w : World) :
    (Instr.index t (.agg T) (.int .i64 k)).run Try.prog w = .ok (.int .i64 x) w := by
  simp [Instr.index, run_underlying hu, asIntOf, hk, hc, go_sem]

set_option maxHeartbeats 400000 in
theorem held_yes (T : Array Value) (f : Nat → Int) (hT : IsRow 16 f T) (hf : Le 1048576 f) (w : World) :
    Calls Try.prog 14 #[.agg T] w fun e w' => e = .returned (.bool true) ∧ Below w.heap.size w w' := by
  obtain ⟨Z, _, hZ0, hz, hi⟩ := zero_block
  have HT := Lib.hid hT
  have HF := Lib.hid hf
  have HI := Lib.hid hi
  have H0 := Lib.hid (At.new w T 24)
  clear hT hZ0 hi hf
  go_enter Try.func14, Try.ntmps14
  go_wp2_with (refine wpList_load_row rfl 24 _ rfl w.heap.size rfl _ _ (0, 0) _ H0.out Try.underlying24 rfl (HI.out _ HT.out.1) ?_)
  go_loop [6] (fun i => ∃ k : Nat, k ≤ 16 ∧ i = .int .i64 k) (fun i => 16 - (intOf i).toNat)
  case atStart => exact ⟨0, Nat.zero_le _, rfl⟩
  case round =>
    obtain ⟨k, hk, rfl⟩ := hrel
    by_cases hk16 : k < 16
    · have hc := HT.out.2.2 k hk16
      obtain ⟨b1, b2⟩ := le_ab (HF.out k hk16)
      obtain ⟨x, hx⟩ : ∃ x, f k = x := ⟨_, rfl⟩
      rw [hx] at hc b1 b2
      clear hx
      have hr := run_index Try.underlying24 hk16 hc
      clear hc
      go_wp2
      go_round
      case rel => exact ⟨k + 1, by omega, by go_num⟩
      case measure => simp [intOf]; omega
    · go_wp2
      go_ret
      exact ⟨rfl, (Below.refl _ _).alloc (Nat.le_refl _) _⟩

theorem first_bad {n : Nat} {P : Nat → Prop} (h : ¬ ∀ i, i < n → P i) : ∃ j, j < n ∧ ¬ P j ∧ ∀ i, i < j → P i := by
  induction n with
  | zero => exact absurd (fun i hi => absurd hi (Nat.not_lt_zero i)) h
  | succ n ih =>
    by_cases hn : ∀ i, i < n → P i
    · refine ⟨n, by omega, fun hp => h fun i hi => ?_, hn⟩
      by_cases e : i = n
      · subst e; exact hp
      · exact hn i (by omega)
    · obtain ⟨j, h1, h2, h3⟩ := ih hn
      exact ⟨j, by omega, h2, h3⟩

set_option maxHeartbeats 400000 in
theorem held_no (T : Array Value) (f : Nat → Int) (hT : IsRow 16 f T) (hf : ¬ Le 1048576 f) (w : World) :
    Calls Try.prog 14 #[.agg T] w fun e w' => e = .returned (.bool false) ∧ Below w.heap.size w w' := by
  obtain ⟨Z, _, hZ0, hz, hi⟩ := zero_block
  obtain ⟨j, hj, hbad, hpre⟩ := first_bad hf
  have HT := Lib.hid hT
  have HF := Lib.hid hpre
  have HB := Lib.hid hbad
  have HI := Lib.hid hi
  have H0 := Lib.hid (At.new w T 24)
  clear hT hZ0 hi hf hpre hbad
  go_enter Try.func14, Try.ntmps14
  go_wp2_with (refine wpList_load_row rfl 24 _ rfl w.heap.size rfl _ _ (0, 0) _ H0.out Try.underlying24 rfl (HI.out _ HT.out.1) ?_)
  go_loop [6] (fun i => ∃ k : Nat, k ≤ j ∧ i = .int .i64 k) (fun i => 16 - (intOf i).toNat)
  case atStart => exact ⟨0, Nat.zero_le _, rfl⟩
  case round =>
    obtain ⟨k, hk, rfl⟩ := hrel
    have hc := HT.out.2.2 k (by omega)
    obtain ⟨x, hx⟩ : ∃ x, f k = x := ⟨_, rfl⟩
    rw [hx] at hc
    have hr := run_index Try.underlying24 (show k < 16 by omega) hc
    clear hc
    have k1 : (k : Int) < 16 := by omega
    by_cases hkj : k < j
    · obtain ⟨b1, b2⟩ := le_ab (HF.out k hkj)
      rw [hx] at b1 b2
      clear hx
      go_wp2
      go_round
      case rel => exact ⟨k + 1, by omega, by go_num⟩
      case measure => simp [intOf]; omega
    · obtain rfl : k = j := by omega
      have hb : x < -1048576 ∨ (-1048576 ≤ x ∧ 1048576 < x) := by
        have := HB.out
        rw [hx] at this
        unfold ab at this
        omega
      clear hx
      rcases hb with hb | ⟨hb1, hb2⟩
      · go_wp2
        go_ret
        exact ⟨rfl, (Below.refl _ _).alloc (Nat.le_refl _) _⟩
      · go_wp2
        go_ret
        exact ⟨rfl, (Below.refl _ _).alloc (Nat.le_refl _) _⟩
end Go.Proofs.Ytabenllglldkkaa.Md
