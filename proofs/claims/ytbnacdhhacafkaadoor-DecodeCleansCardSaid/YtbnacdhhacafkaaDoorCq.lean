/- Decode: the document's answer, and what is asked of the program's. -/
import Derived.Test.YtbnacdhhacafkaaDoorRows
import Derived.Test.YtbnacdhhacafkaaDoorDc
import Derived.Test.YtbnacdhhacafkaaDoorIs
import Derived.Test.YtbnacdhhacafkaaDoorPa
import Derived.WalkKit
import Derived.Below
namespace Go.Proofs.YtbnacdhhacafkaaDoor
open Go.RowKit

def U32 (x : Int) : Prop := 0 ≤ x ∧ x < 4294967296
/-- The error's number of a word. -/
def decE (v : Int) : Int := if decB v then 0 else 2
theorem insOf_op (v k : Int) : (insOf v k).op = k := rfl
theorem decE_yes {v : Int} (h : opW v ≠ 0) : decE v = 0 := by
  have e : decB v = true := by unfold decB; simp [h]
  unfold decE; rw [e]; rfl
/-- What is asked of the program's Decode, in every world behind W. -/
def AskDecode (W : World) : Prop := ∀ v w, BW W w → U32 v → Calls Tryd.prog 16 #[.int .u32 v] w fun e w' => e = .returned (.tuple #[insV (decI v), .int .i64 (decE v)]) ∧ Below w.heap.size w w'
theorem d_decode {W w : World} (v : Int) (hv : U32 v) (h : BW W w) : Calls Tryd.prog 17 #[.int .u32 v] w fun e w' => e = .returned (.tuple #[insV (decI v), .bool (decB v)]) ∧ BW W w' ∧ Below w.heap.size w w' :=
  past h (rdec_any (fun op ho => is_any op ho) v hv.1 hv.2 w)
end Go.Proofs.YtbnacdhhacafkaaDoor
