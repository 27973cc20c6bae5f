/- Texts of the walk, one behind the other. -/
import Derived.Test.YtfohinlldchdpaaGreatDoorEncSilenceM4
import Derived.Test.YtfohinlldchdpaaGreatDoorEncSilenceM7

section
/- Contracts: the document's Right. -/
set_option maxRecDepth 100000
set_option linter.unusedVariables false
namespace Go.Proofs.YtfohinlldchdpaaGreatDoor.Sta
open Go.RowKit Go.Proofs.YtfohinlldchdpaaGreatDoor.Row Go.Proofs.YtfohinlldchdpaaGreatDoor.Md

set_option maxHeartbeats 1000000 in
theorem refRight_any (T : Array Value) (f : Nat → Int) (r : Bool) (w : World) (hT : IsRow 38 f T) (hr : r = true ↔ Rt f) :
    Calls Tryz.prog 38 #[.agg T] w fun e w' => e = .returned (.bool r) ∧ Below w.heap.size w w' := by
  obtain ⟨_, _, _, _, hi⟩ := zero_a
  have HI := Lib.hid hi
  have HT := Lib.hid hT
  have HU := Lib.hid (hT.sub (show 21 + 16 ≤ 38 by omega))
  have HA := Lib.hid (At.new w T 25)
  have HB := Lib.hid ((Below.refl w.heap.size w).alloc (Nat.le_refl _) (.cells T 25))
  have HR := Lib.hid hr
  clear hT hi hr
  have no : ¬ Rt f → r = false := fun h => by cases r <;> first | rfl | exact absurd (HR.out.1 rfl) h
  have NO := Lib.hid no
  clear no
  go_enter Tryz.func38, Tryz.ntmps38
  go_wp2
  revert HA HB
  generalize w.alloc (.cells T 25) = W
  intro HA HB
  go_loopw [3] (fun i wx => ∃ k : Nat, k ≤ 16 ∧ i = .int .i64 k ∧ wx = W ∧ Hid (∀ i, i < k → -2147483648 ≤ f i ∧ f i ≤ 2147483647)) (fun i _ => 16 - (intOf i).toNat)
  case atStart => exact ⟨0, Nat.zero_le _, rfl, rfl, Lib.hid fun _ h => absurd h (by omega)⟩
  case round =>
    obtain ⟨k, hk, rfl, rfl, HK⟩ := hrel
    by_cases hk16 : k < 16
    · have hc := HT.out.cell HA.out k (by omega)
      obtain ⟨x, hx⟩ : ∃ x, f k = x := ⟨_, rfl⟩
      have HX := Lib.hid hx
      rw [hx] at hc
      clear hx
      have k1 : (k : Int) < 16 := by omega
      rcases (show x < -2147483648 ∨ 2147483647 < x ∨ -2147483648 ≤ x ∧ x ≤ 2147483647 by omega) with h | h | ⟨h1, h2⟩
      · go_wp2
        go_ret
        exact ⟨by rw [NO.out fun h' => by have := (h'.1 k hk16).1; rw [HX.out] at this; omega]; rfl, HB.out⟩
      · go_wp2
        go_ret
        exact ⟨by rw [NO.out fun h' => by have := (h'.1 k hk16).2; rw [HX.out] at this; omega]; rfl, HB.out⟩
      · go_wp2
        go_roundw
        case rel => exact ⟨k + 1, by omega, by go_num, trivial, Lib.hid fun i hi => by
          rcases Nat.lt_succ_iff_lt_or_eq.1 hi with h | rfl
          · exact HK.out i h
          · rw [HX.out]; exact ⟨h1, h2⟩⟩
        case measure => simp [intOf]; omega
    · have hn16 : ¬ (k : Int) < 16 := by omega
      have H1 := Lib.hid (show ∀ i, i < 16 → -2147483648 ≤ f i ∧ f i ≤ 2147483647 from fun i hi => HK.out i (by omega))
      clear HK hk hk16
      go_wp2
      clear hn16
      go_loopw [4] (fun i wx => ∃ k : Nat, k ≤ 4 ∧ i = .int .i64 k ∧ wx = wr ∧ Hid (∀ i, i < k → 0 ≤ f (17 + i) ∧ f (17 + i) ≤ 20)) (fun i _ => 4 - (intOf i).toNat)
      case atStart => exact ⟨0, Nat.zero_le _, rfl, rfl, Lib.hid fun _ h => absurd h (by omega)⟩
      case round =>
        obtain ⟨k, hk, rfl, rfl, HK⟩ := hrel
        by_cases hk4 : k < 4
        · have hc := HT.out.cell HA.out (17 + k) (by omega)
          obtain ⟨x, hx⟩ : ∃ x, f (17 + k) = x := ⟨_, rfl⟩
          have HX := Lib.hid hx
          rw [hx] at hc
          clear hx
          have k1 : (k : Int) < 4 := by omega
          rcases (show x < 0 ∨ 20 < x ∨ 0 ≤ x ∧ x ≤ 20 by omega) with h | h | ⟨h1, h2⟩
          · go_wp2
            go_ret
            exact ⟨by rw [NO.out fun h' => by have := (h'.2.2.1 k hk4).1; rw [HX.out] at this; omega]; rfl, HB.out⟩
          · go_wp2
            go_ret
            exact ⟨by rw [NO.out fun h' => by have := (h'.2.2.1 k hk4).2; rw [HX.out] at this; omega]; rfl, HB.out⟩
          · go_wp2
            go_roundw
            case rel => exact ⟨k + 1, by omega, by go_num, trivial, Lib.hid fun i hi => by
              rcases Nat.lt_succ_iff_lt_or_eq.1 hi with h | rfl
              · exact HK.out i h
              · rw [HX.out]; exact ⟨h1, h2⟩⟩
            case measure => simp [intOf]; omega
        · have hn4 : ¬ (k : Int) < 4 := by omega
          have H2 := Lib.hid (show ∀ i, i < 4 → 0 ≤ f (17 + i) ∧ f (17 + i) ≤ 20 from fun i hi => HK.out i (by omega))
          clear HK hk hk4
          have c16 := HT.out.cell HA.out 16 (by omega)
          obtain ⟨x, hx⟩ : ∃ x, f 16 = x := ⟨_, rfl⟩
          have HX := Lib.hid hx
          rw [hx] at c16
          clear hx
          rcases (show x < -2097152 ∨ 2097151 < x ∨ -2097152 ≤ x ∧ x < 2097152 by omega) with h | h | ⟨h1, h2⟩
          · go_wp2
            go_ret
            exact ⟨by rw [NO.out fun h' => by have := h'.2.1.1; rw [HX.out] at this; omega]; rfl, HB.out⟩
          · go_wp2
            go_ret
            exact ⟨by rw [NO.out fun h' => by have := h'.2.1.2; rw [HX.out] at this; omega]; rfl, HB.out⟩
          · go_wp2_with (refine wpList_load_part (by rfl) 22 _ rfl w.heap.size 21 rfl HT.out HA.out HU.out (by omega) (fun i _ => rfl) Tryz.underlying22 rfl (HI.out _ HU.out.1) ?_)
            by_cases hw : Le 1048576 fun i => f (21 + i)
            · have HW := Lib.hid hw
              refine (refHeld_yes _ _ HU.out hw _).mono ?_
              rintro e W' ⟨rfl, hb⟩
              have HA' := Lib.hid (HA.out.below hb HA.out.lt)
              have HB' := Lib.hid (below_trans HB.out hb HB.out.size)
              have c37 := HT.out.cell HA'.out 37 (by omega)
              obtain ⟨z, hz⟩ : ∃ x, f 37 = x := ⟨_, rfl⟩
              have HZ := Lib.hid hz
              rw [hz] at c37
              clear hz hb HA HB hw c16
              rcases (show z < 0 ∨ 255 < z ∨ 0 ≤ z ∧ z ≤ 255 by omega) with h | h | ⟨h3, h4⟩
              · go_wp2
                go_ret
                exact ⟨by rw [NO.out fun h' => by have := h'.2.2.2.2.1; rw [HZ.out] at this; omega]; rfl, HB'.out⟩
              · have hz9 : decide (z ≤ 255) = false := decide_eq_false (by omega)
                go_wp2
                go_ret
                exact ⟨by rw [NO.out fun h' => by have := h'.2.2.2.2.2; rw [HZ.out] at this; omega]; rfl, HB'.out⟩
              · go_wp2
                go_ret
                exact ⟨by rw [HR.out.2 ⟨H1.out, by rw [HX.out]; omega, H2.out, HW.out, by rw [HZ.out]; omega⟩]; rfl, HB'.out⟩
            · refine (refHeld_no _ _ HU.out hw _).mono ?_
              rintro e W' ⟨rfl, hb⟩
              have HB' := Lib.hid (below_trans HB.out hb HB.out.size)
              go_wp2
              go_ret
              exact ⟨by rw [NO.out fun h' => hw h'.2.2.2.1]; rfl, HB'.out⟩
end Go.Proofs.YtfohinlldchdpaaGreatDoor.Sta
end
