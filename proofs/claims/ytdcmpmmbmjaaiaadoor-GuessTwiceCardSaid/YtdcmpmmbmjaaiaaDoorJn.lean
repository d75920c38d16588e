/- An instruction that lies whole in a block of the call's own: its fields written, the worlds behind. -/
import Derived.Test.YtdcmpmmbmjaaiaaDoorRows
import Derived.Test.YtdcmpmmbmjaaiaaDoorSy
import Derived.Test.YtdcmpmmbmjaaiaaDoorBa
import Derived.WalkKit
import Derived.Below
set_option maxRecDepth 100000
namespace Go.Proofs.YtdcmpmmbmjaaiaaDoor
open Go.RowKit

/-- In a world behind W0: instruction i lies whole in block g, which W0 had not. -/
def Jn (W0 : World) (i : Ins) (g : Nat) (w : World) : Prop := BW W0 w ∧ Blk (insCells i) 24 g w ∧ W0.heap.size ≤ g
section
variable {W0 w w' : World} {i : Ins} {g : Nat}
theorem Jn.on (h : Jn W0 i g w) (hb : Below w.heap.size w w') : Jn W0 i g w' := ⟨h.1.on hb, h.2.1.on hb, h.2.2⟩
theorem Jn.drew (h : Jn W0 i g w) : Jn W0 i g w.drew := ⟨Below.drew h.1, h.2.1.drew, h.2.2⟩
theorem Jn.st (h : Jn W0 i g w) (k : Nat) (v : Value) (i' : Ins) (e : (insCells i).setIfInBounds k v = insCells i') : Jn W0 i' g (w.setCell ⟨g, k, none⟩ v) :=
  ⟨Below.setCell h.1 h.2.2 v, by have := h.2.1.set k v; rw [e] at this; exact this, h.2.2⟩
theorem Jn.s1 (h : Jn W0 i g w) (x : Int) : Jn W0 { i with rd := x } g (w.setCell ⟨g, 1, none⟩ (.int .i64 x)) := h.st 1 _ _ rfl
theorem Jn.s2 (h : Jn W0 i g w) (x : Int) : Jn W0 { i with rs1 := x } g (w.setCell ⟨g, 2, none⟩ (.int .i64 x)) := h.st 2 _ _ rfl
theorem Jn.s3 (h : Jn W0 i g w) (x : Int) : Jn W0 { i with rs2 := x } g (w.setCell ⟨g, 3, none⟩ (.int .i64 x)) := h.st 3 _ _ rfl
theorem Jn.s4 (h : Jn W0 i g w) (x : Int) : Jn W0 { i with imm := x } g (w.setCell ⟨g, 4, none⟩ (.int .i64 x)) := h.st 4 _ _ rfl
theorem Jn.s5 (h : Jn W0 i g w) (x : Bool) : Jn W0 { i with aq := x } g (w.setCell ⟨g, 5, none⟩ (.bool x)) := h.st 5 _ _ rfl
theorem Jn.s6 (h : Jn W0 i g w) (x : Bool) : Jn W0 { i with rl := x } g (w.setCell ⟨g, 6, none⟩ (.bool x)) := h.st 6 _ _ rfl
theorem Jn.s7 (h : Jn W0 i g w) (x : Int) : Jn W0 { i with pred := x } g (w.setCell ⟨g, 7, none⟩ (.int .i64 x)) := h.st 7 _ _ rfl
theorem Jn.s8 (h : Jn W0 i g w) (x : Int) : Jn W0 { i with succ := x } g (w.setCell ⟨g, 8, none⟩ (.int .i64 x)) := h.st 8 _ _ rfl
theorem ins_one (i : Ins) : ∀ v ∈ (insCells i).toList, v.oneCell' = true := by
  intro v hv
  simp [insCells] at hv
  rcases hv with rfl | rfl | rfl | rfl | rfl | rfl | rfl | rfl | rfl <;> rfl
/-- The whole instruction is stored into the result's block. -/
theorem Jn.out {P : Program} {W : World} {z : Ins} (h : Jn W0 i g w) (hr : Blk (insCells z) 24 W.heap.size W0) (hb : Below W.heap.size W W0) :
    ∃ w', (storeCells ⟨W.heap.size, 0, none⟩ (insCells i).toList 0).run P w = .ok () w' ∧ Blk (insCells i) 24 W.heap.size w' ∧ BW W w' := by
  obtain ⟨w', h1, h2, h3⟩ := (hr.within h.1 hr.lt).store (P := P) (insCells i).toList rfl (ins_one i)
  refine ⟨w', h1, h2, ?_⟩
  have hbw : Below W.heap.size W w := hb.trans (Below.mono h.1 hb.size)
  exact Below.stored hbw h3 (Nat.le_refl _) hbw.size
/-- What the walk reads of it. -/
theorem Jn.cells (h : Jn W0 i g w) : w.cell? ⟨g, 0, none⟩ = some (.int .i64 i.op) ∧ w.cell? ⟨g, 1, none⟩ = some (.int .i64 i.rd) ∧ w.cell? ⟨g, 2, none⟩ = some (.int .i64 i.rs1) ∧ w.cell? ⟨g, 3, none⟩ = some (.int .i64 i.rs2) ∧
    w.cell? ⟨g, 4, none⟩ = some (.int .i64 i.imm) ∧ w.cell? ⟨g, 5, none⟩ = some (.bool i.aq) ∧ w.cell? ⟨g, 6, none⟩ = some (.bool i.rl) ∧ w.cell? ⟨g, 7, none⟩ = some (.int .i64 i.pred) ∧ w.cell? ⟨g, 8, none⟩ = some (.int .i64 i.succ) :=
  ⟨h.2.1.cell 0, h.2.1.cell 1, h.2.1.cell 2, h.2.1.cell 3, h.2.1.cell 4, h.2.1.cell 5, h.2.1.cell 6, h.2.1.cell 7, h.2.1.cell 8⟩
theorem Jn.frees (h : Jn W0 i g w) : w.frozen? ⟨g, 1, none⟩ = false ∧ w.frozen? ⟨g, 2, none⟩ = false ∧ w.frozen? ⟨g, 3, none⟩ = false ∧ w.frozen? ⟨g, 4, none⟩ = false ∧ w.frozen? ⟨g, 5, none⟩ = false ∧ w.frozen? ⟨g, 6, none⟩ = false ∧ w.frozen? ⟨g, 7, none⟩ = false ∧ w.frozen? ⟨g, 8, none⟩ = false :=
  ⟨h.2.1.free 1, h.2.1.free 2, h.2.1.free 3, h.2.1.free 4, h.2.1.free 5, h.2.1.free 6, h.2.1.free 7, h.2.1.free 8⟩
end

end Go.Proofs.YtdcmpmmbmjaaiaaDoor
