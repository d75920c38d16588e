/- The contract of SameInts, and the law on registers, walked over what is asked of package ops. -/
import Derived.Test.YtoaonoflekcccaaDoorRows
import Derived.Test.YtoaonoflekcccaaDoorOp5
import Derived.WalkKit
import Derived.WalkLawsBesides
import Derived.WalkSmall
import Derived.WalkSpells
import Derived.Deep.LoopGhost
import Derived.Deep.QuietTactic
import Derived.BigQuiet
import Derived.Lib.Hide
import Derived.Below
import Derived.LoopTactic
import Derived.Deep.RegionHeld3
import Derived.Deep.DeepCutAuto
set_option maxRecDepth 100000
namespace Go.Proofs.YtoaonoflekcccaaDoor
open Go.RowKit


theorem below_drewN' {B : Nat} {a w : World} (h : Below B a w) (n : Nat) : Below B a (w.drewN n) := ⟨h.os, h.tape, h.output, h.size, h.block⟩

/-- The instruction's nine cells, spelled out. -/
def I9 (W : World) (i : Ins) (w : World) : Prop :=
  BW W w ∧ w.cell? ⟨W.heap.size, 0, none⟩ = some (.int .i64 i.op) ∧ w.cell? ⟨W.heap.size, 1, none⟩ = some (.int .i64 i.rd) ∧ w.cell? ⟨W.heap.size, 2, none⟩ = some (.int .i64 i.rs1) ∧ w.cell? ⟨W.heap.size, 3, none⟩ = some (.int .i64 i.rs2) ∧
    w.cell? ⟨W.heap.size, 4, none⟩ = some (.int .i64 i.imm) ∧ w.cell? ⟨W.heap.size, 5, none⟩ = some (.bool i.aq) ∧ w.cell? ⟨W.heap.size, 6, none⟩ = some (.bool i.rl) ∧ w.cell? ⟨W.heap.size, 7, none⟩ = some (.int .i64 i.pred) ∧ w.cell? ⟨W.heap.size, 8, none⟩ = some (.int .i64 i.succ)
theorem I9.of {W : World} {i : Ins} {w : World} (hb : BW W w) (h : InsAt i W.heap.size w) : I9 W i w :=
  ⟨hb, h.2 0 _ rfl, h.2 1 _ rfl, h.2 2 _ rfl, h.2 3 _ rfl, h.2 4 _ rfl, h.2 5 _ rfl, h.2 6 _ rfl, h.2 7 _ rfl, h.2 8 _ rfl⟩
theorem I9.at {W : World} {i : Ins} {w : World} (h : I9 W i w) : BW W w ∧ InsAt i W.heap.size w := by
  obtain ⟨hb, c0, c1, c2, c3, c4, c5, c6, c7, c8⟩ := h
  refine ⟨hb, World.block_lt_of_cell? w _ c0, fun k v hv => ?_⟩
  have hk : k < 9 := (Array.getElem?_eq_some_iff.1 hv).1
  have h9 : k = 0 ∨ k = 1 ∨ k = 2 ∨ k = 3 ∨ k = 4 ∨ k = 5 ∨ k = 6 ∨ k = 7 ∨ k = 8 := by omega
  rcases h9 with rfl | rfl | rfl | rfl | rfl | rfl | rfl | rfl | rfl <;> (cases hv; assumption)
theorem I9.on {W : World} {i : Ins} {w w' : World} (h : I9 W i w) (hb : Below w.heap.size w w') : I9 W i w' := I9.of (h.at.1.on hb) (h.at.2.on hb)
theorem BW.drew {W w : World} (h : BW W w) : BW W w.drew := Below.drew h

section
variable {W : World} (i : Ins) (ho : I64 i.op) (w : World) (h : I9 W i w)
include h
include ho
/-- The call's list of registers, in a world behind. -/
def Got (W : World) (i : Ins) (l : List Int) (e : Ending) (w' : World) : Prop := ∃ A cap, e = .returned (.slice A l.length cap) ∧ Rd w' w'.heap.size A (cellsI l) ∧ I9 W i w'
def Got2 (W : World) (i : Ins) (l : List Int) (A0 : Option Addr) (e : Ending) (w' : World) : Prop := ∃ A cap, e = .returned (.slice A l.length cap) ∧ Rd w' w'.heap.size A (cellsI l) ∧ Rd w' w'.heap.size A0 (cellsI l) ∧ I9 W i w'
end
theorem srcs_len (i : Ins) : (srcs i).length ≤ 2 := by
  unfold srcs
  split <;> split <;> simp

end Go.Proofs.YtoaonoflekcccaaDoor
