/- Texts of the walk, one behind the other. -/
import Derived.Test.YtfohinlldchdpaaGreatDoorEncPlaysM24
import Derived.Test.YtfohinlldchdpaaGreatDoorEncPlaysM37
import Derived.Test.YtfohinlldchdpaaGreatDoorEncPlaysM29

section
/- The laws' frames. -/
set_option maxRecDepth 100000
set_option linter.unusedVariables false
namespace Go.Proofs.YtfohinlldchdpaaGreatDoor.En
open Go.RowKit Go.Proofs.YtfohinlldchdpaaGreatDoor.Row Go.Proofs.YtfohinlldchdpaaGreatDoor.Md Go.Proofs.YtfohinlldchdpaaGreatDoor.Tl Go.Proofs.YtfohinlldchdpaaGreatDoor.Sta

end Go.Proofs.YtfohinlldchdpaaGreatDoor.En
end
