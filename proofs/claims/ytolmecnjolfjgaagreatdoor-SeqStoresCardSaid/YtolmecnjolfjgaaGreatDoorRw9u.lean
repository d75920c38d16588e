/- The document's words of a text. -/
import Derived.Test.YtolmecnjolfjgaaGreatDoorRows
import Derived.Test.YtolmecnjolfjgaaGreatDoorRdu
import Derived.Test.YtolmecnjolfjgaaGreatDoorOp5u
import Derived.WalkKit
import Derived.WalkLawsBesides
import Derived.Deep.QuietTactic
import Derived.BigQuiet
import Derived.WalkSmall
import Derived.WalkSpells
import Derived.Lib.Hide
import Derived.Below
import Derived.LoopTactic
import Derived.Deep.LoopGhost
import Derived.OwnWalk
import Derived.Laws.AppendOwn
set_option maxRecDepth 100000
namespace Go.Proofs.YtolmecnjolfjgaaGreatDoor
open Go.RowKit

theorem info_str : (Tryz.prog.info? 9).map (fun i => (i.zero, i.size, i.bytes)) = some (some (.string ByteArray.empty), 1, 16) := by kernel_rfl
def txs (O : List (List UInt8)) : List Value := O.map tx
end Go.Proofs.YtolmecnjolfjgaaGreatDoor
