/- Of stage 11. -/
import Derived.Test.YtoeekibcelaloaaGreatDoorQep
set_option linter.unusedVariables false
set_option maxRecDepth 100000
namespace Go.Proofs.YtoeekibcelaloaaGreatDoor
open Go.RowKit
end Go.Proofs.YtoeekibcelaloaaGreatDoor
