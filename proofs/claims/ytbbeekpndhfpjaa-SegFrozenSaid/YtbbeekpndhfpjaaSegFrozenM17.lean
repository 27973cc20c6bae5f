/- Texts of the walk, one behind the other. -/
import Derived.Test.YtbbeekpndhfpjaaSegFrozenM14
import Derived.OpenShut

section
/- Arguments as they come in: whole numbers and texts. -/
set_option maxRecDepth 100000
namespace Go.Proofs.Ytbbeekpndhfpjaa.Fg
open Go.RowKit
theorem in_u32 {n : Int} (h : (Lit.int .u32 n).wf = true) : ∃ k : Nat, n = (k : Int) ∧ k < 4294967296 := by
  have := bounds_u32 h
  exact ⟨n.toNat, by omega, by omega⟩
theorem in_u8 {n : Int} (h : (Lit.int .u8 n).wf = true) : ∃ k : Nat, n = (k : Int) ∧ k < 256 := by
  have := bounds_u8 h
  exact ⟨n.toNat, by omega, by omega⟩
theorem in_byte {n : Int} (h : (Lit.int .u8 n).wf = true) : ∃ k : UInt8, n = (k.toNat : Int) := by
  obtain ⟨k, rfl, hk⟩ := in_u8 h
  refine ⟨UInt8.ofNat k, ?_⟩
  rw [UInt8.toNat_ofNat']
  omega
theorem in_text {s : ByteArray} (h : s.size ≤ maxLen) : ∃ r : List UInt8, s = tx r ∧ r.length ≤ maxLen := ⟨s.data.toList, rfl, h⟩
end Go.Proofs.Ytbbeekpndhfpjaa.Fg
end
