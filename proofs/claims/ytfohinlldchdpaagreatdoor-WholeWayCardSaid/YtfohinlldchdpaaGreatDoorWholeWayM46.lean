/- Texts of the walk, one behind the other. -/
import Derived.Test.YtfohinlldchdpaaGreatDoorWholeWayM45
import Derived.Test.YtfohinlldchdpaaGreatDoorWholeWayM1

section
/- The theorem through the layers: a checksum is told. -/
set_option maxRecDepth 100000
set_option linter.unusedVariables false
namespace Go.Proofs.YtfohinlldchdpaaGreatDoor.Crc
open Go.RowKit Go.Proofs.YtfohinlldchdpaaGreatDoor.Row

theorem goes_as (w : World) : Calls Tryz.prog 24 #[] w fun e w' => e = .returned (.bool true) ∧ Below w.heap.size w w' := by
  have HS := Lib.hid (sum_any nine w (by unfold maxLen; decide))
  rw [nine_sum] at HS
  have hne : (⟨(fourL 1).toArray⟩ : ByteArray).toList.isEmpty = false := by decide +kernel
  obtain ⟨B, hB⟩ : ∃ B : ByteArray, (⟨(fourL 1).toArray⟩ : ByteArray) = B := ⟨_, rfl⟩
  have HF := Lib.hid (fun w => four_any 1 w (by omega))
  rw [hB] at HF hne
  clear hB
  unfold nine at HS
  go_enter Tryz.func24, Tryz.ntmps24
  go_wp2_with fail
  refine HS.out.mono ?_
  rintro e w1 ⟨rfl, hb⟩
  have HB := Lib.hid hb
  clear hb
  go_wp2_with fail
  refine (HF.out w1).mono ?_
  rintro e w2 ⟨rfl, hb⟩
  have HB2 := Lib.hid (below_trans HB.out hb HB.out.size)
  clear hb
  go_wp2_with fail
  rw [hne] at *
  go_ret
  exact ⟨rfl, HB2.out⟩
end Go.Proofs.YtfohinlldchdpaaGreatDoor.Crc
end
