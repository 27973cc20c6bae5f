/- Texts of the walk, one behind the other. -/
import Derived.Test.YtfohinlldchdpaaGreatDoorWholeWayM10
import Derived.Test.YtfohinlldchdpaaGreatDoorWholeWayM24

section
/- Contracts: the document's Sound and Right of encoders. -/
set_option maxRecDepth 100000
set_option linter.unusedVariables false
namespace Go.Proofs.YtfohinlldchdpaaGreatDoor.En
open Go.RowKit Go.Proofs.YtfohinlldchdpaaGreatDoor.Row Go.Proofs.YtfohinlldchdpaaGreatDoor.Md Go.Proofs.YtfohinlldchdpaaGreatDoor.Tl Go.Proofs.YtfohinlldchdpaaGreatDoor.Sta

set_option maxHeartbeats 1000000 in
theorem refSound_any (T : Array Value) (f : Nat → Int) (r : Bool) (w : World) (hT : IsRow 16 f T) (hr : r = true ↔ Snd f) :
    Calls Tryz.prog 18 #[.agg T] w fun e w' => e = .returned (.bool r) ∧ Below w.heap.size w w' := by
  have HT := Lib.hid hT
  have HA := Lib.hid (At.new w T 22)
  have HB := Lib.hid ((Below.refl w.heap.size w).alloc (Nat.le_refl _) (.cells T 22))
  have HR := Lib.hid hr
  clear hT hr
  have no : ¬ Snd f → r = false := fun h => by cases r <;> first | rfl | exact absurd (HR.out.1 rfl) h
  have NO := Lib.hid no
  clear no
  go_enter Tryz.func18, Tryz.ntmps18
  go_wp2
  revert HA HB
  generalize w.alloc (.cells T 22) = W
  intro HA HB
  go_loopw [3] (fun i wx => ∃ k : Nat, k ≤ 16 ∧ i = .int .i64 k ∧ wx = W ∧ Hid (∀ i, i < k → -32768 ≤ f i ∧ f i ≤ 32767)) (fun i _ => 16 - (intOf i).toNat)
  case atStart => exact ⟨0, Nat.zero_le _, rfl, rfl, Lib.hid fun _ h => absurd h (by omega)⟩
  case round =>
    obtain ⟨k, hk, rfl, rfl, HK⟩ := hrel
    by_cases hk16 : k < 16
    · have hc := HT.out.cell HA.out k (by omega)
      obtain ⟨x, hx⟩ : ∃ x, f k = x := ⟨_, rfl⟩
      have HX := Lib.hid hx
      rw [hx] at hc
      clear hx
      have k1 : (k : Int) < 16 := by omega
      rcases (show x < -32768 ∨ -32768 ≤ x ∧ 32767 < x ∨ -32768 ≤ x ∧ x ≤ 32767 by omega) with h | ⟨h, h'⟩ | ⟨h1, h2⟩
      · go_wp2
        go_ret
        exact ⟨by rw [NO.out fun h' => by have := (h' k hk16).1; rw [HX.out] at this; omega]; rfl, HB.out⟩
      · go_wp2
        go_ret
        exact ⟨by rw [NO.out fun h' => by have := (h' k hk16).2; rw [HX.out] at this; omega]; rfl, HB.out⟩
      · go_wp2
        go_roundw
        case rel => exact ⟨k + 1, by omega, by go_num, trivial, Lib.hid fun i hi => by
          rcases Nat.lt_succ_iff_lt_or_eq.1 hi with h | rfl
          · exact HK.out i h
          · rw [HX.out]; exact ⟨h1, h2⟩⟩
        case measure => simp [intOf]; omega
    · have hn16 : ¬ (k : Int) < 16 := by omega
      have H1 := Lib.hid (show ∀ i, i < 16 → -32768 ≤ f i ∧ f i ≤ 32767 from fun i hi => HK.out i (by omega))
      clear HK hk hk16
      go_wp2
      go_ret
      exact ⟨by rw [HR.out.2 H1.out]; rfl, HB.out⟩

set_option maxHeartbeats 1000000 in
theorem refRight_en (T : Array Value) (f : Nat → Int) (r : Bool) (w : World) (hT : IsRow 55 f T) (hr : r = true ↔ Re f) :
    Calls Tryz.prog 17 #[.agg T] w fun e w' => e = .returned (.bool r) ∧ Below w.heap.size w w' := by
  obtain ⟨_, _, _, _, hi⟩ := zero_r
  obtain ⟨Q, hQ⟩ : ∃ M, T.extract 17 (17 + 38) = M := ⟨_, rfl⟩
  have hQ' := hT.sub (show 17 + 38 ≤ 55 by omega)
  rw [hQ] at hQ'
  obtain ⟨q, hq⟩ : ∃ q : Bool, q = true ↔ Rt (fun i => f (17 + i)) := by
    by_cases h : Rt (fun i => f (17 + i))
    · exact ⟨true, by simp [h]⟩
    · exact ⟨false, by simp [h]⟩
  have HC := Lib.hid (fun w => refRight_any Q _ q w hQ' hq)
  have Hq := Lib.hid hq
  have HQ := Lib.hid hQ'
  have HI := Lib.hid hi
  have HT := Lib.hid hT
  have HA := Lib.hid (At.new w T 27)
  have HB := Lib.hid ((Below.refl w.heap.size w).alloc (Nat.le_refl _) (.cells T 27))
  have HR := Lib.hid hr
  clear hT hr hi hQ hQ' hq
  have no : ¬ Re f → r = false := fun h => by cases r <;> first | rfl | exact absurd (HR.out.1 rfl) h
  have NO := Lib.hid no
  clear no
  go_enter Tryz.func17, Tryz.ntmps17
  go_wp2
  revert HA HB
  generalize w.alloc (.cells T 27) = W
  intro HA HB
  go_loopw [3] (fun i wx => ∃ k : Nat, k ≤ 16 ∧ i = .int .i64 k ∧ wx = W ∧ Hid (∀ i, i < k → -131072 ≤ f i ∧ f i ≤ 131072)) (fun i _ => 16 - (intOf i).toNat)
  case atStart => exact ⟨0, Nat.zero_le _, rfl, rfl, Lib.hid fun _ h => absurd h (by omega)⟩
  case round =>
    obtain ⟨k, hk, rfl, rfl, HK⟩ := hrel
    by_cases hk16 : k < 16
    · have hc := HT.out.cell HA.out k (by omega)
      obtain ⟨x, hx⟩ : ∃ x, f k = x := ⟨_, rfl⟩
      have HX := Lib.hid hx
      rw [hx] at hc
      clear hx
      have k1 : (k : Int) < 16 := by omega
      rcases (show x < -131072 ∨ -131072 ≤ x ∧ 131072 < x ∨ -131072 ≤ x ∧ x ≤ 131072 by omega) with h | ⟨h, h'⟩ | ⟨h1, h2⟩
      · go_wp2
        go_ret
        exact ⟨by rw [NO.out fun h' => by have := (h'.1 k hk16).1; rw [HX.out] at this; omega]; rfl, HB.out⟩
      · go_wp2
        go_ret
        exact ⟨by rw [NO.out fun h' => by have := (h'.1 k hk16).2; rw [HX.out] at this; omega]; rfl, HB.out⟩
      · go_wp2
        go_roundw
        case rel => exact ⟨k + 1, by omega, by go_num, trivial, Lib.hid fun i hi => by
          rcases Nat.lt_succ_iff_lt_or_eq.1 hi with h | rfl
          · exact HK.out i h
          · rw [HX.out]; exact ⟨h1, h2⟩⟩
        case measure => simp [intOf]; omega
    · have hn16 : ¬ (k : Int) < 16 := by omega
      have H1 := Lib.hid (show ∀ i, i < 16 → -131072 ≤ f i ∧ f i ≤ 131072 from fun i hi => HK.out i (by omega))
      have c16 := HT.out.cell HA.out 16 (by omega)
      obtain ⟨z, hz⟩ : ∃ x, f 16 = x := ⟨_, rfl⟩
      have HZ := Lib.hid hz
      rw [hz] at c16
      clear HK hk hk16 hz
      rcases (show z < -32768 ∨ -32768 ≤ z ∧ 32767 < z ∨ -32768 ≤ z ∧ z ≤ 32767 by omega) with h | ⟨h, h'⟩ | ⟨h1, h2⟩
      · have d1 : decide (z ≥ -32768) = false := decide_eq_false (by omega)
        go_wp2
        go_ret
        exact ⟨by rw [NO.out fun h' => by have := h'.2.1.1; rw [HZ.out] at this; omega]; rfl, HB.out⟩
      · have d1 : decide (z ≥ -32768) = true := decide_eq_true (by omega)
        have d2 : decide (z ≤ 32767) = false := decide_eq_false (by omega)
        go_wp2
        go_ret
        exact ⟨by rw [NO.out fun h' => by have := h'.2.1.2; rw [HZ.out] at this; omega]; rfl, HB.out⟩
      · have d1 : decide (z ≥ -32768) = true := decide_eq_true (by omega)
        have d2 : decide (z ≤ 32767) = true := decide_eq_true (by omega)
        have hrq : r = q := by
          rw [Bool.eq_iff_iff, HR.out, Hq.out]
          exact ⟨fun h => h.2.2, fun h => ⟨H1.out, by rw [HZ.out]; exact ⟨h1, h2⟩, h⟩⟩
        have HRQ := Lib.hid hrq
        clear hrq
        go_wp2_with (refine wpList_load_part (by rfl) 25 _ rfl w.heap.size 17 rfl HT.out HA.out HQ.out (by omega) (fun i _ => rfl) Tryz.underlying25 rfl (HI.out _ HQ.out.1) ?_)
        refine (HC.out wr).mono ?_
        rintro e W1 ⟨rfl, hb⟩
        have HB1 := Lib.hid (below_trans HB.out hb HB.out.size)
        clear hb
        go_wp2
        go_ret
        exact ⟨by rw [HRQ.out]; rfl, HB1.out⟩
end Go.Proofs.YtfohinlldchdpaaGreatDoor.En
end
