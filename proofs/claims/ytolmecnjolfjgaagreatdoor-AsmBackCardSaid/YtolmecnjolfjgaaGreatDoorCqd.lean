/- Decode: the document's answer, and what is asked of the program's. What is asked of the program's three functions of package decode (each proved of the code, at its round), and 'one', walked over it. -/
import Derived.Test.YtolmecnjolfjgaaGreatDoorRows
import Derived.Test.YtolmecnjolfjgaaGreatDoorDc
import Derived.Test.YtolmecnjolfjgaaGreatDoorIs
import Derived.Test.YtolmecnjolfjgaaGreatDoorSy
import Derived.WalkKit
import Derived.Below
import Derived.Test.YtolmecnjolfjgaaGreatDoorOc
import Derived.Test.YtolmecnjolfjgaaGreatDoorBa
import Derived.WalkLawsBesides
import Derived.Deep.QuietTactic
import Derived.BigQuiet
import Derived.WalkSmall
import Derived.WalkSpells
import Derived.Lib.Hide
import Derived.LoopTactic
import Derived.Outline
set_option maxRecDepth 100000
namespace Go.Proofs.YtolmecnjolfjgaaGreatDoor
open Go.RowKit

def U32 (x : Int) : Prop := 0 ≤ x ∧ x < 4294967296
/-- The error's number of a word. -/
def decE (v : Int) : Int := if decB v then 0 else 2
theorem insOf_op (v k : Int) : (insOf v k).op = k := rfl
theorem decE_yes {v : Int} (h : opW v ≠ 0) : decE v = 0 := by
  have e : decB v = true := by unfold decB; simp [h]
  unfold decE; rw [e]; rfl
/-- What is asked of the program's Decode, in every world behind W. -/
def AskDecode (W : World) : Prop := ∀ v w, BW W w → U32 v → Calls Tryz.prog 43 #[.int .u32 v] w fun e w' => e = .returned (.tuple #[insV (decI v), .int .i64 (decE v)]) ∧ Below w.heap.size w w'
theorem d_decode {W w : World} (v : Int) (hv : U32 v) (h : BW W w) : Calls Tryz.prog 34 #[.int .u32 v] w fun e w' => e = .returned (.tuple #[insV (decI v), .bool (decB v)]) ∧ BW W w' ∧ Below w.heap.size w w' :=
  past h (rdec_any (fun op ho => is_any op ho) v hv.1 hv.2 w)
end Go.Proofs.YtolmecnjolfjgaaGreatDoor
namespace Go.Proofs.YtolmecnjolfjgaaGreatDoor
open Go.RowKit

/-- An instruction without the registers that its operation hasn't. -/
def clnI (i : Ins) : Ins := { i with rd := if wrB i.op then i.rd else 0, rs1 := if firB i.op then i.rs1 else 0, rs2 := if secB i.op then i.rs2 else 0 }
/-- In every world behind W. -/
structure Cdec (W : World) : Prop where
  decode : AskDecode W
  opcode : ∀ op w, BW W w → I64 op → Calls Tryz.prog 110 #[.int .i64 op] w fun e w' => e = .returned (.int .u32 (ocV op)) ∧ Below w.heap.size w w'
  clean : ∀ i w, BW W w → I64 i.op → Calls Tryz.prog 89 #[insV i] w fun e w' => e = .returned (insV (clnI i)) ∧ Below w.heap.size w w'
theorem Cdec.on {W w : World} (C : Cdec W) (h : BW W w) : Cdec w :=
  ⟨fun v x hx hv => C.decode v x (h.on hx) hv, fun op x hx => C.opcode op x (h.on hx), fun i x hx => C.clean i x (h.on hx)⟩

end Go.Proofs.YtolmecnjolfjgaaGreatDoor
