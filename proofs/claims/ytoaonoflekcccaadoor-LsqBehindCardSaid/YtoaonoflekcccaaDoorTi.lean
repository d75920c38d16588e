/- Tables of numbers that the rows list, as cells. -/
import Derived.Test.YtoaonoflekcccaaDoorRows
import Derived.Test.YtoaonoflekcccaaDoorBa
import Derived.WalkKit
import Derived.ProofKit
import Derived.OpenShut
import Derived.Laws.Cover2
import Derived.Below
set_option maxRecDepth 100000
namespace Go.Proofs.YtoaonoflekcccaaDoor
open Go.ChangeShapes Go.WideShapes Go.ChangeAt Go.RowKit Go.Deep

/-- Numbers of a table that lies at block g. -/
def TabI (g : Nat) (l : List Int) (w : World) : Prop := ∀ i, i < l.length → w.cell? ⟨g, i, none⟩ = some (.int .i64 (l.getD i 0))
def TabU (g : Nat) (l : List Int) (w : World) : Prop := ∀ i, i < l.length → w.cell? ⟨g, i, none⟩ = some (.int .u32 (l.getD i 0))
theorem TabI.below {g : Nat} {l : List Int} {W w : World} (h : TabI g l W) (hb : Below W.heap.size W w) : TabI g l w := fun i hi => by
  have hz := World.block_lt_of_cell? W _ (h i hi)
  rw [hb.cell (p := ⟨g, i, none⟩) hz]; exact h i hi
theorem TabU.below {g : Nat} {l : List Int} {W w : World} (h : TabU g l W) (hb : Below W.heap.size W w) : TabU g l w := fun i hi => by
  have hz := World.block_lt_of_cell? W _ (h i hi)
  rw [hb.cell (p := ⟨g, i, none⟩) hz]; exact h i hi
theorem tabI_of {laid : List (String × DataW Unit)} {W : World} {name : String} {d : DataW Unit} {g : Nat} {t : TypeId} (l : List Int) (hL : laidMetH Tryd.prog laid W) (hm : (name, d) ∈ laid) (hp : (laid.all fun x => x.2.handleName?.isNone) = true)
    (hg : Tryd.prog.globalNamed name = some g) (hty : (Tryd.prog.globals[g]?).map (·.type) = some t) (hf : flatT Tryd.prog 8 t = true) (e : flatD 8 d = l.map (Value.int .i64)) : TabI g l W := by
  have h := flat_met 8 hL hm hp hg hty hf
  intro i hi
  refine h i _ ?_
  rw [e, List.getElem?_map, List.getD_eq_getElem?_getD, List.getElem?_eq_getElem hi]
  rfl
theorem tabU_of {laid : List (String × DataW Unit)} {W : World} {name : String} {d : DataW Unit} {g : Nat} {t : TypeId} (l : List Int) (hL : laidMetH Tryd.prog laid W) (hm : (name, d) ∈ laid) (hp : (laid.all fun x => x.2.handleName?.isNone) = true)
    (hg : Tryd.prog.globalNamed name = some g) (hty : (Tryd.prog.globals[g]?).map (·.type) = some t) (hf : flatT Tryd.prog 8 t = true) (e : flatD 8 d = l.map (Value.int .u32)) : TabU g l W := by
  have h := flat_met 8 hL hm hp hg hty hf
  intro i hi
  refine h i _ ?_
  rw [e, List.getElem?_map, List.getD_eq_getElem?_getD, List.getElem?_eq_getElem hi]
  rfl
theorem wf_u64_out {a : Int} (h : (Lit.int .u64 a).wf = true) : 0 ≤ a ∧ a < 18446744073709551616 := by
  simp [Lit.wf, IntKind.min, IntKind.max, IntKind.signed, IntKind.bits] at h; omega
end Go.Proofs.YtoaonoflekcccaaDoor
