/- Behind a call: what came, and the world's. -/
import Derived.Test.YtbnacdhhacafkaaDoorRows
import Derived.Test.YtbnacdhhacafkaaDoorSz
import Derived.WalkKit
import Derived.Below
namespace Go.Proofs.YtbnacdhhacafkaaDoor
open Go.RowKit

/-- Behind a call: what came, and the world's. -/
theorem past {P : Program} {W w : World} {f : FuncId} {args : Array Value} {v : Value} (h : BW W w) (c : Calls P f args w fun e w' => e = .returned v ∧ Below w.heap.size w w') :
    Calls P f args w fun e w' => e = .returned v ∧ BW W w' ∧ Below w.heap.size w w' := c.mono fun _ _ hh => ⟨hh.1, h.on hh.2, hh.2⟩
end Go.Proofs.YtbnacdhhacafkaaDoor
