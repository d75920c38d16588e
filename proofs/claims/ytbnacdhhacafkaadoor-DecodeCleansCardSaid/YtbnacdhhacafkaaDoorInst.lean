/- An instruction: its nine cells, as data. -/
import Derived.Test.YtbnacdhhacafkaaDoorRows
import Derived.WalkKit
import Derived.Below
import Derived.Laws.Rows
import Derived.Deep.WholeRow
namespace Go.Proofs.YtbnacdhhacafkaaDoor
open Go.RowKit

def I64 (x : Int) : Prop := -9223372036854775808 ≤ x ∧ x ≤ 9223372036854775807
structure Ins where
  op : Int
  rd : Int
  rs1 : Int
  rs2 : Int
  imm : Int
  aq : Bool
  rl : Bool
  pred : Int
  succ : Int
def insCells (i : Ins) : Array Value := #[.int .i64 i.op, .int .i64 i.rd, .int .i64 i.rs1, .int .i64 i.rs2, .int .i64 i.imm, .bool i.aq, .bool i.rl, .int .i64 i.pred, .int .i64 i.succ]
def insV (i : Ins) : Value := .agg #[.int .i64 i.op, .int .i64 i.rd, .int .i64 i.rs1, .int .i64 i.rs2, .int .i64 i.imm, .bool i.aq, .bool i.rl, .int .i64 i.pred, .int .i64 i.succ]
/-- The instruction lies at block g. -/
def InsAt (i : Ins) (g : Nat) (w : World) : Prop := g < w.heap.size ∧ ∀ k v, (insCells i)[k]? = some v → w.cell? ⟨g, k, none⟩ = some v
theorem InsAt.new (i : Ins) (w : World) (t : TypeId) : InsAt i w.heap.size (w.alloc (.cells (insCells i) t)) := by
  refine ⟨by simp, fun k v h => ?_⟩
  rw [cell_of_row (w.alloc (.cells (insCells i) t)) w.heap.size k (insCells i) t (0, 0) (heap_alloc_last w _)]
  exact h
theorem InsAt.on {i : Ins} {g : Nat} {w w' : World} (h : InsAt i g w) (hb : Below w.heap.size w w') : InsAt i g w' :=
  ⟨Nat.lt_of_lt_of_le h.1 hb.size, fun k v hv => (hb.cell (p := ⟨g, k, none⟩) h.1).trans (h.2 k v hv)⟩
theorem InsAt.cells {i : Ins} {g : Nat} {w : World} (h : InsAt i g w) :
    w.cell? ⟨g, 0, none⟩ = some (.int .i64 i.op) ∧ w.cell? ⟨g, 1, none⟩ = some (.int .i64 i.rd) ∧ w.cell? ⟨g, 2, none⟩ = some (.int .i64 i.rs1) ∧ w.cell? ⟨g, 3, none⟩ = some (.int .i64 i.rs2) :=
  ⟨h.2 0 _ rfl, h.2 1 _ rfl, h.2 2 _ rfl, h.2 3 _ rfl⟩

end Go.Proofs.YtbnacdhhacafkaaDoor
