/- Texts of the walk, one behind the other. -/
import Derived.Test.YtbbeekpndhfpjaaSegFrozenM1
import Derived.Laws.Strings2

section
/- A text's bytes (carved out of FgR). -/
namespace Go.Proofs.Ytbbeekpndhfpjaa.Fg
/-- A text's bytes. -/
def tx (r : List UInt8) : ByteArray := ⟨r.toArray⟩
theorem tx_size (r : List UInt8) : (tx r).size = r.length := by unfold tx; simp [ByteArray.size]
/-- Part of a text. -/
theorem tx_cut (r : List UInt8) (a b : Nat) : (tx r).extract a b = tx ((r.drop a).take (b - a)) := ByteArray.extract_mk r a b
end Go.Proofs.Ytbbeekpndhfpjaa.Fg
end
