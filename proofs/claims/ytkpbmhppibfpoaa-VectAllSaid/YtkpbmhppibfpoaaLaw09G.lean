/- VectAll: the walk. -/
import Derived.Test.YtkpbmhppibfpoaaLaw09A
import Derived.Test.YtkpbmhppibfpoaaVeV
set_option maxRecDepth 100000
set_option linter.unusedVariables false
namespace Go.Proofs.Ytkpbmhppibfpoaa.Ve
open Go.RowKit Go.Proofs.Ytkpbmhppibfpoaa.Row Go.Maps Go.WideMaps

set_option maxHeartbeats 400000 in
theorem vectAll_walk (n k : Nat) (W : World) (hn : n ≤ 255) (hk : k ≤ 255) :
    Calls Try.prog 5 #[.int .u8 n, .int .u8 k] W fun e w' => e = .returned (.bool true) ∧ Below W.heap.size W w' := by
  obtain ⟨m, hm⟩ : ∃ m : Nat, (n : Int) % 5 = m := ⟨n % 5, by omega⟩
  obtain ⟨q, hq⟩ : ∃ q : Nat, (k : Int) % 6 = q := ⟨k % 6, by omega⟩
  have hm4 : m ≤ 4 := by omega
  have hq5 : q ≤ 5 := by omega
  have HLL := Lib.hid (allL_len m q)
  have HAT := Lib.hid (fun i r (h : (allL m q)[i]? = some r) => allL_at hm4 hq5 h)
  have hv9 := V_le (n := m) (k := q) (by omega) (by omega)
  have HC := Lib.hid (show cI m q = V m q from cI_nat (by omega) (by omega))
  have HR := Lib.hid (fun w => refAll_as m q w (by omega) (by omega))
  obtain ⟨L, hL⟩ : ∃ L, allL m q = L := ⟨_, rfl⟩
  rw [hL] at HLL HAT HR
  obtain ⟨ln, hln⟩ : ∃ ln, L.length = ln := ⟨_, rfl⟩
  have HLN := Lib.hid hln
  have HV := Lib.hid (show V m q = ln by rw [← HLL.out.1]; exact hln)
  rw [HV.out] at hv9 HC
  clear hL hln
  go_enter Try.func5, Try.ntmps5
  go_wp2_with fail
  refine (awake_yes _).mono ?_
  rintro e w1 ⟨rfl, h1⟩
  have HB1 := Lib.hid h1
  clear h1
  go_wp2_with fail
  refine (HR.out _).mono ?_
  rintro e w2 ⟨a, c, xs, rfl, hA, h2⟩
  rw [HLN.out]
  have HB2 := Lib.hid (below_trans HB1.out h2 HB1.out.size)
  have HA := Lib.hid hA
  clear hA h2 HB1 HR
  go_wp2_with fail
  go_loopw [8] (fun i w' => ∃ i' : Nat, i' ≤ ln ∧ i = .int .i64 i' ∧ Below W.heap.size W w' ∧ AllV w' w1.heap.size a c L xs) (fun i _ => ln - (intOf i).toNat)
  case atStart => exact ⟨0, Nat.zero_le _, rfl, HB2.out, HA.out⟩
  case round =>
    obtain ⟨i, hi, rfl, hB, hA⟩ := hrel
    have HB := Lib.hid hB
    have HA2 := Lib.hid hA
    clear hB hA HB2 HA
    by_cases hlt : i < ln
    · obtain ⟨g, y, r, ha, hr, hcy, hRy⟩ := HA2.out.at (i := i) (by rw [HLN.out]; exact hlt)
      have hrl : r.length = m := HLL.out.2 r (List.mem_of_getElem? hr)
      obtain ⟨gy, cy, rfl⟩ := hRy.shape
      have HRY := Lib.hid hRy
      have HAR := Lib.hid (HAT.out i r hr)
      rw [hrl] at hcy HRY
      have HRL := Lib.hid hrl
      have HCY := Lib.hid hcy
      subst ha
      clear hr hRy hrl hcy
      go_wp2_with fail
      refine (vector_yes m q i _ (by omega) (by omega) (by rw [HV.out]; exact hlt)).mono ?_
      rintro e w3 ⟨f, f1, f2, gv, U, rfl, hgv, hU, hAt, h3⟩
      have c1 := (Below.cell h3 (block_lt_of_cell HCY.out)).trans HCY.out
      have hRy3 : RowV w3 w1.heap.size (.slice (some ⟨gy, 0, none⟩) r.length cy) r := by rw [HRL.out]; exact HRY.out.below h3
      have hsl := hRy3.sl
      rw [HRL.out] at hsl
      have HSS := Lib.hid (same_yes (some ⟨gv, 0, none⟩) (some ⟨gy, 0, none⟩) m m cy f (fun j => r.getD j 0) w3 (Sl.of_isRow hU hAt (by unfold maxLen; omega)) hsl (num_inj f1 HAR.out.1 (by rw [f2, HAR.out.2])))
      have HB3 := Lib.hid (below_trans HB.out h3 HB.out.size)
      have HA3 := Lib.hid (HA2.out.below h3)
      clear f1 f2 hgv hU hAt h3 hRy3 hsl HB HA2 HAR HRY HCY
      go_wp2_with fail
      refine HSS.out.mono ?_
      rintro e w4 ⟨rfl, h4⟩
      have HB4 := Lib.hid (below_trans HB3.out h4 HB3.out.size)
      have HA4 := Lib.hid (HA3.out.below h4)
      clear h4 HB3 HA3 HSS c1
      go_wp2_with fail
      go_roundw
      case rel => exact ⟨i + 1, by omega, by go_num, HB4.out, HA4.out⟩
      case measure => simp [intOf]; omega
    · obtain rfl : i = ln := by omega
      go_wp2_with fail
      refine (count_as _ _ _ _ HC.out).mono ?_
      rintro e w3 ⟨rfl, h3⟩
      go_wp2_with fail
      go_ret
      exact ⟨rfl, below_trans HB.out h3 HB.out.size⟩

theorem vectAll_any (a0 a1 : Int) (W : World) (w0 : (Lit.int .u8 a0).wf = true) (w1 : (Lit.int .u8 a1).wf = true) :
    Calls Try.prog 5 #[.int .u8 a0, .int .u8 a1] W fun e w' => e = .returned (.bool true) ∧ Below W.heap.size W w' := by
  obtain ⟨n, rfl, hn⟩ := u8_bd w0
  obtain ⟨k, rfl, hk⟩ := u8_bd w1
  exact vectAll_walk n k W hn hk
end Go.Proofs.Ytkpbmhppibfpoaa.Ve
