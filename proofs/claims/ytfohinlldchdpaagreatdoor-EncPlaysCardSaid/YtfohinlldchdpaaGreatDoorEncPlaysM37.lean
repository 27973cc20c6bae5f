/- Texts of the walk, one behind the other. -/
import Derived.Test.YtfohinlldchdpaaGreatDoorEncPlaysM1
import Derived.Deep.Slices

section
/- Slices of rows of 16 numbers that come in. For every package. -/
set_option maxRecDepth 100000
set_option linter.unusedVariables false
namespace Go.Proofs.YtfohinlldchdpaaGreatDoor.Row
open Go.RowKit Go.WideShapes Go.Deep

end Go.Proofs.YtfohinlldchdpaaGreatDoor.Row
end
