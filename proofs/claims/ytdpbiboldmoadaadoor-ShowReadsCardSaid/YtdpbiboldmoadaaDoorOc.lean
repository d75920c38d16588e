/- The document's Opcode. -/
import Derived.Test.YtdpbiboldmoadaaDoorRows
import Derived.Test.YtdpbiboldmoadaaDoorSy
import Derived.WalkKit
import Derived.WalkLawsBesides
import Derived.Deep.QuietTactic
import Derived.BigQuiet
import Derived.WalkSmall
import Derived.WalkSpells
import Derived.Lib.Hide
import Derived.Below
set_option maxRecDepth 100000
namespace Go.Proofs.YtdpbiboldmoadaaDoor
open Go.RowKit

end Go.Proofs.YtdpbiboldmoadaaDoor
