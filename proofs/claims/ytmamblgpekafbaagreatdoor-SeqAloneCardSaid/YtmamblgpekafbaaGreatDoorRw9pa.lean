/- Of stage 11. -/
import Derived.Test.YtmamblgpekafbaaGreatDoorRdpa
set_option maxRecDepth 100000
namespace Go.Proofs.YtmamblgpekafbaaGreatDoor
open Go.RowKit
theorem info_str:(Tryz.prog.info? 9).map (fun i=>(i.zero,i.size,i.bytes))=some (some (.string ByteArray.empty),1,16):=by kernel_rfl
def txs (O:List (List UInt8)):List Value:=O.map tx
end Go.Proofs.YtmamblgpekafbaaGreatDoor
