import Derived.Test.YtponpgcpmlcdpaaGreatDoorGa
import Derived.Deep.CutBlock
import Derived.Deep.DeepCutAuto
namespace Go.Proofs.YtponpgcpmlcdpaaGreatDoor
open Go.RowKit Go.Shelf Km Kx Kc
set_option linter.unusedVariables false
end Go.Proofs.YtponpgcpmlcdpaaGreatDoor
namespace Go.Proofs.YtponpgcpmlcdpaaGreatDoor
open Go.RowKit Go.Shelf Km Kx Kc
set_option linter.unusedVariables false
end Go.Proofs.YtponpgcpmlcdpaaGreatDoor
