/- Two instructions that lie whole in memory: the one that came, and the one that is made. -/
import Derived.Test.YtoifkdjalddhkaaDoorRows
import Derived.Test.YtoifkdjalddhkaaDoorJn
import Derived.WalkKit
import Derived.Below
namespace Go.Proofs.YtoifkdjalddhkaaDoor
open Go.RowKit

/-- In a world behind W: i lies whole in block g1, k in block g3, which W had not. -/
def P2 (W : World) (g1 g3 : Nat) (i k : Ins) (w : World) : Prop := BW W w ∧ Blk (insCells i) 23 g1 w ∧ Blk (insCells k) 23 g3 w ∧ W.heap.size ≤ g3 ∧ g1 ≠ g3
section
variable {W w w' : World} {i k : Ins} {g1 g3 : Nat}
theorem P2.bw (h : P2 W g1 g3 i k w) : BW W w := h.1
theorem P2.on (h : P2 W g1 g3 i k w) (hb : Below w.heap.size w w') : P2 W g1 g3 i k w' := ⟨h.1.on hb, h.2.1.on hb, h.2.2.1.on hb, h.2.2.2⟩
theorem P2.op (h : P2 W g1 g3 i k w) (x : Int) : P2 W g1 g3 i { k with op := x } (w.setCell ⟨g3, 0, none⟩ (.int .i64 x)) :=
  ⟨Below.setCell h.1 h.2.2.2.1 _, h.2.1.other (a := ⟨g3, 0, none⟩) h.2.2.2.2 _, h.2.2.1.set 0 _, h.2.2.2⟩
theorem P2.drew (h : P2 W g1 g3 i k w) : P2 W g1 g3 i k w.drew := ⟨Below.drew h.1, h.2.1.drew, h.2.2.1.drew, h.2.2.2⟩
/-- One lies whole. -/
def P1 (W : World) (g1 : Nat) (i : Ins) (w : World) : Prop := BW W w ∧ Blk (insCells i) 23 g1 w
theorem P1.on (h : P1 W g1 i w) (hb : Below w.heap.size w w') : P1 W g1 i w' := ⟨h.1.on hb, h.2.on hb⟩
theorem P1.blk (h : P1 W g1 i w) : Blk (insCells i) 23 g1 w := h.2
theorem P1.new (h : P1 W g1 i w) : P2 W g1 w.heap.size i i (w.alloc (.cells (insCells i) 23)) := ⟨h.1.new _, h.2.alloc _, Blk.new _ _ _, Below.size h.1, Nat.ne_of_lt h.2.lt⟩
theorem P2.one (h : P2 W g1 g3 i k w) : P1 W g1 i w := ⟨h.1, h.2.1⟩
/-- The nine cells of what is made. -/
def N9 (g : Nat) (i : Ins) (w : World) : Prop :=
  w.cell? ⟨g, 0, none⟩ = some (.int .i64 i.op) ∧ w.cell? ⟨g, 1, none⟩ = some (.int .i64 i.rd) ∧ w.cell? ⟨g, 2, none⟩ = some (.int .i64 i.rs1) ∧ w.cell? ⟨g, 3, none⟩ = some (.int .i64 i.rs2) ∧ w.cell? ⟨g, 4, none⟩ = some (.int .i64 i.imm) ∧
    w.cell? ⟨g, 5, none⟩ = some (.bool i.aq) ∧ w.cell? ⟨g, 6, none⟩ = some (.bool i.rl) ∧ w.cell? ⟨g, 7, none⟩ = some (.int .i64 i.pred) ∧ w.cell? ⟨g, 8, none⟩ = some (.int .i64 i.succ)
theorem P2.cells (h : P2 W g1 g3 i k w) : N9 g3 k w := ⟨h.2.2.1.cell 0, h.2.2.1.cell 1, h.2.2.1.cell 2, h.2.2.1.cell 3, h.2.2.1.cell 4, h.2.2.1.cell 5, h.2.2.1.cell 6, h.2.2.1.cell 7, h.2.2.1.cell 8⟩
end
end Go.Proofs.YtoifkdjalddhkaaDoor
