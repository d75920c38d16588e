/- The document's Opcode. The document's F3. The document's Turned and Shift. The document's Format and Five. Whether a word is an operation's: the document's Is, by kinds of operations. The contract of the document's Places. The contracts of the document's Put, Mask and Get. An instruction that lies whole in a block of the call's own: its fields written, the worlds behind. The contract of the docume -/
import Derived.Test.YtolmecnjolfjgaaGreatDoorRows
import Derived.Test.YtolmecnjolfjgaaGreatDoorSyu
import Derived.WalkKit
import Derived.WalkLawsBesides
import Derived.Deep.QuietTactic
import Derived.BigQuiet
import Derived.WalkSmall
import Derived.WalkSpells
import Derived.Lib.Hide
import Derived.Below
import Derived.Test.YtolmecnjolfjgaaGreatDoorBk4u
import Derived.Deep.Cut
import Derived.LoopTactic
import Derived.OwnWalk
import Derived.Deep.WholeRow
import Derived.Test.YtolmecnjolfjgaaGreatDoorBau
import Derived.Test.YtolmecnjolfjgaaGreatDoorDqu
import Derived.Outline
import Derived.Deep.LoopGhost
set_option maxRecDepth 100000
namespace Go.Proofs.YtolmecnjolfjgaaGreatDoor
open Go.RowKit

end Go.Proofs.YtolmecnjolfjgaaGreatDoor
namespace Go.Proofs.YtolmecnjolfjgaaGreatDoor
open Go.RowKit

end Go.Proofs.YtolmecnjolfjgaaGreatDoor
namespace Go.Proofs.YtolmecnjolfjgaaGreatDoor
open Go.RowKit

end Go.Proofs.YtolmecnjolfjgaaGreatDoor
namespace Go.Proofs.YtolmecnjolfjgaaGreatDoor
open Go.RowKit

end Go.Proofs.YtolmecnjolfjgaaGreatDoor
namespace Go.Proofs.YtolmecnjolfjgaaGreatDoor
open Go.RowKit

section
variable (op : Int) (h : 1 ≤ op ∧ op ≤ 75) (w : World)
include h
end
end Go.Proofs.YtolmecnjolfjgaaGreatDoor
namespace Go.Proofs.YtolmecnjolfjgaaGreatDoor
open Go.RowKit

end Go.Proofs.YtolmecnjolfjgaaGreatDoor
namespace Go.Proofs.YtolmecnjolfjgaaGreatDoor
open Go.RowKit

end Go.Proofs.YtolmecnjolfjgaaGreatDoor
namespace Go.Proofs.YtolmecnjolfjgaaGreatDoor
open Go.RowKit

/-- In a world behind W0: instruction i lies whole in block g, which W0 had not. -/
def Jn (W0 : World) (i : Ins) (g : Nat) (w : World) : Prop := BW W0 w ∧ Blk (insCells i) 40 g w ∧ W0.heap.size ≤ g
section
variable {W0 w w' : World} {i : Ins} {g : Nat}
theorem Jn.on (h : Jn W0 i g w) (hb : Below w.heap.size w w') : Jn W0 i g w' := ⟨h.1.on hb, h.2.1.on hb, h.2.2⟩
theorem Jn.drew (h : Jn W0 i g w) : Jn W0 i g w.drew := ⟨Below.drew h.1, h.2.1.drew, h.2.2⟩
theorem Jn.st (h : Jn W0 i g w) (k : Nat) (v : Value) (i' : Ins) (e : (insCells i).setIfInBounds k v = insCells i') : Jn W0 i' g (w.setCell ⟨g, k, none⟩ v) :=
  ⟨Below.setCell h.1 h.2.2 v, by have := h.2.1.set k v; rw [e] at this; exact this, h.2.2⟩
theorem Jn.s1 (h : Jn W0 i g w) (x : Int) : Jn W0 { i with rd := x } g (w.setCell ⟨g, 1, none⟩ (.int .i64 x)) := h.st 1 _ _ rfl
theorem Jn.s2 (h : Jn W0 i g w) (x : Int) : Jn W0 { i with rs1 := x } g (w.setCell ⟨g, 2, none⟩ (.int .i64 x)) := h.st 2 _ _ rfl
theorem Jn.s3 (h : Jn W0 i g w) (x : Int) : Jn W0 { i with rs2 := x } g (w.setCell ⟨g, 3, none⟩ (.int .i64 x)) := h.st 3 _ _ rfl
theorem Jn.s4 (h : Jn W0 i g w) (x : Int) : Jn W0 { i with imm := x } g (w.setCell ⟨g, 4, none⟩ (.int .i64 x)) := h.st 4 _ _ rfl
theorem Jn.s5 (h : Jn W0 i g w) (x : Bool) : Jn W0 { i with aq := x } g (w.setCell ⟨g, 5, none⟩ (.bool x)) := h.st 5 _ _ rfl
theorem Jn.s6 (h : Jn W0 i g w) (x : Bool) : Jn W0 { i with rl := x } g (w.setCell ⟨g, 6, none⟩ (.bool x)) := h.st 6 _ _ rfl
theorem Jn.s7 (h : Jn W0 i g w) (x : Int) : Jn W0 { i with pred := x } g (w.setCell ⟨g, 7, none⟩ (.int .i64 x)) := h.st 7 _ _ rfl
theorem Jn.s8 (h : Jn W0 i g w) (x : Int) : Jn W0 { i with succ := x } g (w.setCell ⟨g, 8, none⟩ (.int .i64 x)) := h.st 8 _ _ rfl
theorem ins_one (i : Ins) : ∀ v ∈ (insCells i).toList, v.oneCell' = true := by
  intro v hv
  simp [insCells] at hv
  rcases hv with rfl | rfl | rfl | rfl | rfl | rfl | rfl | rfl | rfl <;> rfl
/-- What the walk reads of it. -/
theorem Jn.cells (h : Jn W0 i g w) : w.cell? ⟨g, 0, none⟩ = some (.int .i64 i.op) ∧ w.cell? ⟨g, 1, none⟩ = some (.int .i64 i.rd) ∧ w.cell? ⟨g, 2, none⟩ = some (.int .i64 i.rs1) ∧ w.cell? ⟨g, 3, none⟩ = some (.int .i64 i.rs2) ∧
    w.cell? ⟨g, 4, none⟩ = some (.int .i64 i.imm) ∧ w.cell? ⟨g, 5, none⟩ = some (.bool i.aq) ∧ w.cell? ⟨g, 6, none⟩ = some (.bool i.rl) ∧ w.cell? ⟨g, 7, none⟩ = some (.int .i64 i.pred) ∧ w.cell? ⟨g, 8, none⟩ = some (.int .i64 i.succ) :=
  ⟨h.2.1.cell 0, h.2.1.cell 1, h.2.1.cell 2, h.2.1.cell 3, h.2.1.cell 4, h.2.1.cell 5, h.2.1.cell 6, h.2.1.cell 7, h.2.1.cell 8⟩
theorem Jn.frees (h : Jn W0 i g w) : w.frozen? ⟨g, 1, none⟩ = false ∧ w.frozen? ⟨g, 2, none⟩ = false ∧ w.frozen? ⟨g, 3, none⟩ = false ∧ w.frozen? ⟨g, 4, none⟩ = false ∧ w.frozen? ⟨g, 5, none⟩ = false ∧ w.frozen? ⟨g, 6, none⟩ = false ∧ w.frozen? ⟨g, 7, none⟩ = false ∧ w.frozen? ⟨g, 8, none⟩ = false :=
  ⟨h.2.1.free 1, h.2.1.free 2, h.2.1.free 3, h.2.1.free 4, h.2.1.free 5, h.2.1.free 6, h.2.1.free 7, h.2.1.free 8⟩
end

end Go.Proofs.YtolmecnjolfjgaaGreatDoor
namespace Go.Proofs.YtolmecnjolfjgaaGreatDoor
open Go.RowKit

end Go.Proofs.YtolmecnjolfjgaaGreatDoor
namespace Go.Proofs.YtolmecnjolfjgaaGreatDoor
open Go.RowKit

def U32 (x : Int) : Prop := 0 ≤ x ∧ x < 4294967296
/-- The error's number of a word. -/
def decE (v : Int) : Int := if decB v then 0 else 2
theorem insOf_op (v k : Int) : (insOf v k).op = k := rfl
theorem decE_yes {v : Int} (h : opW v ≠ 0) : decE v = 0 := by
  have e : decB v = true := by unfold decB; simp [h]
  unfold decE; rw [e]; rfl
end Go.Proofs.YtolmecnjolfjgaaGreatDoor
namespace Go.Proofs.YtolmecnjolfjgaaGreatDoor
open Go.RowKit

/-- An instruction without the registers that its operation hasn't. -/
def clnI (i : Ins) : Ins := { i with rd := if wrB i.op then i.rd else 0, rs1 := if firB i.op then i.rs1 else 0, rs2 := if secB i.op then i.rs2 else 0 }
end Go.Proofs.YtolmecnjolfjgaaGreatDoor
