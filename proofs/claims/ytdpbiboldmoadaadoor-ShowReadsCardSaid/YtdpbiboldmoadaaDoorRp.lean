/- The contracts of the document's Put, Mask and Get. -/
import Derived.Test.YtdpbiboldmoadaaDoorRows
import Derived.Test.YtdpbiboldmoadaaDoorBk4
import Derived.Test.YtdpbiboldmoadaaDoorPl
import Derived.WalkKit
import Derived.WalkLawsBesides
import Derived.Deep.QuietTactic
import Derived.BigQuiet
import Derived.WalkSmall
import Derived.WalkSpells
import Derived.Lib.Hide
import Derived.Below
import Derived.Deep.Cut
import Derived.Deep.WholeRow
import Derived.LoopTactic
import Derived.OwnWalk
set_option maxRecDepth 100000
namespace Go.Proofs.YtdpbiboldmoadaaDoor
open Go.RowKit

/-- The places lie at block g. -/
def At (f : Int) (g : Nat) (w : World) : Prop := ∀ i, i < 32 → w.cell? ⟨g, i, none⟩ = some (.int .i64 (plc f i))
theorem At.new (f : Int) (w : World) (t : TypeId) : At f w.heap.size (w.alloc (.cells (plcV f) t)) := fun i hi => by
  rw [cell_of_row _ _ i (plcV f) t (0, 0) (heap_alloc_last w _)]
  exact plcV_at f hi

end Go.Proofs.YtdpbiboldmoadaaDoor
