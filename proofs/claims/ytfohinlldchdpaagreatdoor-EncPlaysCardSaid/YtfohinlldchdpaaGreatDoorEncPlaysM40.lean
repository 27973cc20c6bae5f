/- Texts of the walk, one behind the other. -/
import Derived.Test.YtfohinlldchdpaaGreatDoorEncPlaysM1
import Derived.Lib.BitFns
import Derived.Lib.Walk

section
/- Contract of the document's Length. -/
namespace Go.Proofs.YtfohinlldchdpaaGreatDoor.Ref01
open Go.RowKit Go.Proofs.YtfohinlldchdpaaGreatDoor.Row
set_option linter.unusedVariables false

theorem length_any (x : Int) (w : World) (h1 : 0 ≤ x) (h2 : x ≤ 9223372036854775807) :
    Calls Tryz.prog 97 #[.int .i64 x] w fun e w' => e = .returned (.int .i64 (Lib.bitLen x.natAbs)) ∧ w = w' := by
  have hl := Lib.bitLen_le x.natAbs 64 (by omega) (by omega)
  go_enter Tryz.func97, Tryz.ntmps97
  go_wp2
  go_loop [0, 3] (fun y n => ∃ (m k : Nat), y = .int .i64 (m : Int) ∧ n = .int .i64 (k : Int) ∧ m ≤ x.natAbs ∧ Hid (k + Lib.bitLen m = Lib.bitLen x.natAbs)) (fun y _ => (intOf y).toNat)
  case atStart => exact ⟨x.natAbs, 0, by rw [show (x.natAbs : Int) = x by omega], rfl, by omega, Lib.hid (by omega)⟩
  case round =>
    obtain ⟨m, k, rfl, rfl, hm, HK⟩ := hrel
    by_cases h0 : 0 < m
    · have hh := Lib.bitLen_half m (by omega) (by omega)
      have hk1 : k ≤ 63 := by have := HK.out; omega
      have HK2 := Lib.hid (show k + 1 + Lib.bitLen (m / 2) = Lib.bitLen x.natAbs by have := HK.out; omega)
      clear hh HK
      go_wp2
      go_round
      case rel => exact ⟨m / 2, k + 1, by go_num, by go_num, by omega, HK2⟩
      case measure => simp [intOf]; omega
    · obtain rfl : m = 0 := by omega
      have hz : Lib.bitLen 0 = 0 := by decide
      have HE := Lib.hid (show k = Lib.bitLen x.natAbs by have := HK.out; omega)
      clear hz HK
      go_wp2
      go_ret
      exact ⟨ret_int (by rw [← HE.out]), rfl⟩
end Go.Proofs.YtfohinlldchdpaaGreatDoor.Ref01
end
