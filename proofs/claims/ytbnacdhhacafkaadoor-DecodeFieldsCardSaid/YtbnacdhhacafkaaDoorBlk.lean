/- A block known whole (a struct, or an array of one-cell values, in memory): read, written cell by cell, stored whole. Of no program. -/
import Derived.Test.YtbnacdhhacafkaaDoorRows
import Derived.WalkKit
import Derived.Below
import Derived.Laws.Rows
import Derived.Laws.CopyRow
import Derived.Deep.WholeRow
namespace Go.Proofs.YtbnacdhhacafkaaDoor
open Go.RowKit

/-- Block g holds just these cells, none of them frozen. -/
def Blk (cs : Array Value) (t : TypeId) (g : Nat) (w : World) : Prop := w.heap[g]? = some (.cells cs t (0, 0))
section
variable {cs : Array Value} {t : TypeId} {g : Nat} {w w' : World}
theorem Blk.new (cs : Array Value) (t : TypeId) (w : World) : Blk cs t w.heap.size (w.alloc (.cells cs t)) := heap_alloc_last w _
theorem Blk.lt (h : Blk cs t g w) : g < w.heap.size := (Array.getElem?_eq_some_iff.1 h).1
theorem Blk.on (h : Blk cs t g w) (hb : Below w.heap.size w w') : Blk cs t g w' := (hb.block g h.lt).trans h
theorem Blk.within {B : Nat} (h : Blk cs t g w) (hb : Below B w w') (hg : g < B) : Blk cs t g w' := (hb.block g hg).trans h
theorem Blk.cell (h : Blk cs t g w) (k : Nat) : w.cell? ⟨g, k, none⟩ = cs[k]? := cell_of_row w g k cs t (0, 0) h
theorem Blk.free (h : Blk cs t g w) (k : Nat) : w.frozen? ⟨g, k, none⟩ = false := by
  unfold Blk at h
  simp [World.frozen?, h]
theorem Blk.set (h : Blk cs t g w) (k : Nat) (v : Value) : Blk (cs.setIfInBounds k v) t g (w.setCell ⟨g, k, none⟩ v) := by
  unfold Blk at h ⊢
  obtain ⟨hlt, he⟩ := Array.getElem?_eq_some_iff.1 h
  simp [World.setCell, Array.getElem?_modify, h]
theorem Blk.other (h : Blk cs t g w) {a : Addr} (hne : g ≠ a.block) (v : Value) : Blk cs t g (w.setCell a v) := (Below.heap_setCell w a v g hne).trans h
theorem Blk.alloc (h : Blk cs t g w) (o : Obj) : Blk cs t g (w.alloc o) := (Below.heap_alloc w o g h.lt).trans h
theorem Blk.drew (h : Blk cs t g w) : Blk cs t g w.drew := h
/-- The whole value, read. -/
theorem Blk.var {P : Program} {d : TypeDesc} {ty : TypeId} (h : Blk cs t g w) (hu : P.underlying ty = some d) (hd : (match d with | .struct _ | .array _ _ => true | _ => false) = true) (hi : (P.info? ty).map (·.size) = some cs.size) :
    (loadVar ty ⟨g, 0, none⟩).run P w = .ok (.agg cs) w := run_loadVar_row w g t ty cs (0, 0) d h hu hd hi
/-- The whole value, stored. -/
theorem Blk.store {P : Program} (h : Blk cs t g w) (ys : List Value) (hy : ys.length = cs.size) (h1 : ∀ v ∈ ys, v.oneCell' = true) :
    ∃ w', (storeCells ⟨g, 0, none⟩ ys 0).run P w = .ok () w' ∧ Blk ys.toArray t g w' ∧ w.grownBy w' (some g) := by
  have hr := run_storeCells_at (P := P) g 0 t ys 0 cs w h (by omega) h1
  have he : (cs.toList.take (0 + 0) ++ ys ++ cs.toList.drop (0 + 0 + ys.length)) = ys := by
    rw [List.take_zero, List.nil_append, List.drop_of_length_le (by rw [Array.length_toList]; omega), List.append_nil]
  rw [he] at hr
  exact ⟨_, hr, setRow_heap w g cs ys.toArray _ _ h, ⟨rfl, rfl, rfl, by simp, fun k _ hk => setRow_other w g k _ (fun e => hk (by rw [e]))⟩⟩
theorem Below.stored {B : Nat} {a : World} (h : Below B a w) (hg : w.grownBy w' (some g)) (hB : B ≤ g) (hz : B ≤ w.heap.size) : Below B a w' :=
  h.grown hg hz (fun k hk => by cases hk; exact hB)
/-- The results of a function whose first one lies in memory, whole. -/
theorem results_blk {P : Program} {fn : Func} {p q : Tmp} {ty : TypeId} {d : TypeDesc} {tmps : Array Value} (h : fn.results = #[.cell p ty, .tmp q]) (hp : tmps.getD p undef = .pointer (some ⟨g, 0, none⟩)) (hb : Blk cs t g w)
    (hu : P.underlying ty = some d) (hd : (match d with | .struct _ | .array _ _ => true | _ => false) = true) (hi : (P.info? ty).map (·.size) = some cs.size) :
    (results fn tmps).run P w = .ok (.tuple #[.agg cs, tmps.getD q undef]) w := by
  have hp' : tmps[p]?.getD undef = .pointer (some ⟨g, 0, none⟩) := by simpa using hp
  simp [results, h, hp', asAddr, hb.var hu hd hi]
theorem results_blk1 {P : Program} {fn : Func} {p : Tmp} {ty : TypeId} {d : TypeDesc} {tmps : Array Value} (h : fn.results = #[.cell p ty]) (hp : tmps.getD p undef = .pointer (some ⟨g, 0, none⟩)) (hb : Blk cs t g w)
    (hu : P.underlying ty = some d) (hd : (match d with | .struct _ | .array _ _ => true | _ => false) = true) (hi : (P.info? ty).map (·.size) = some cs.size) :
    (results fn tmps).run P w = .ok (.agg cs) w := by
  have hp' : tmps[p]?.getD undef = .pointer (some ⟨g, 0, none⟩) := by simpa using hp
  simp [results, h, hp', asAddr, hb.var hu hd hi]
/-- An arm of the walk: the whole value is loaded. -/
theorem load_blk {P : Program} {ops : Array Oper} {rest : List Oper} {o : Oper} {a : Act} {Q : Exit → Act → World → Prop} (hgd : o.guard = none) (ty : TypeId) (x : Operand) (ho : o.op = .load ty x) (hb : Blk cs t g w)
    (hx : a.eval x = .pointer (some ⟨g, 0, none⟩)) {d : TypeDesc} (hu : P.underlying ty = some d) (hd : (match d with | .struct _ | .array _ _ => true | _ => false) = true) (hi : (P.info? ty).map (·.size) = some cs.size)
    (h : wpList P ops Q rest (a.put o.dst (.agg cs)) w) : wpList P ops Q (o :: rest) a w :=
  wpList_load_row hgd ty x ho g hx t cs (0, 0) d hb hu hd hi h
end
end Go.Proofs.YtbnacdhhacafkaaDoor
