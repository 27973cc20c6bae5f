/- Texts of the walk, one behind the other. -/
import Derived.Test.YtbbeekpndhfpjaaSegFrozenM18
import Derived.Test.YtbbeekpndhfpjaaPg0
import Derived.Test.YtbbeekpndhfpjaaFr
import Derived.Test.YtbbeekpndhfpjaaSegFrozenM2

section
/- 64 bytes as a row. -/
set_option linter.unusedVariables false
namespace Go.Proofs.Ytbbeekpndhfpjaa.Pa
open Go.RowKit Go.Proofs.Ytbbeekpndhfpjaa.Row

theorem below_drewP {B : Nat} {w0 w : World} (h : Below B w0 w) (k : Nat) : Below B w0 (w.drewN k) := ⟨h.os, h.tape, h.output, h.size, h.block⟩
/-- T holds the bytes b. -/
def Byts (b : List UInt8) (T : Array Value) : Prop := b.length = 64 ∧ IsRow8 64 (fun i => (B b i : Int)) T
end Go.Proofs.Ytbbeekpndhfpjaa.Pa
end
