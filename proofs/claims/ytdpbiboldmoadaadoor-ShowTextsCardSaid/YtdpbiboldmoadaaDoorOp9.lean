/- The tables that the rows list; the laws of layer 9 as the claims ask them. -/
import Derived.Test.YtdpbiboldmoadaaDoorRows
import Derived.Test.YtdpbiboldmoadaaDoorBa
import Derived.Test.YtdpbiboldmoadaaDoorTi
import Derived.Test.YtdpbiboldmoadaaDoorLc9
import Derived.WalkKit
import Derived.ProofKit
import Derived.OpenShut
import Derived.Laws.Cover2
set_option maxRecDepth 100000
namespace Go.Proofs.YtdpbiboldmoadaaDoor
open Go.ChangeShapes Go.WideShapes Go.ChangeAt Go.RowKit Go.Deep

theorem tab9_laid {W : World} (hL : laidMetH Tryd.prog Rows.showTextsRow.laid W) : Tab9 W := by
  have hp : (Rows.showTextsRow.laid.all fun x => x.2.handleName?.isNone) = true := by kernel_rfl
  have h2 := flat_blk (d := Rows.laid_internal_strconv_uint64pow10) (g := 5) (t := 100) 8 hL (List.mem_of_getElem? (i := 2) rfl) hp (by kernel_rfl) (by kernel_rfl) (by kernel_rfl)
  have e2 : flatD 8 Rows.laid_internal_strconv_uint64pow10 = Lib.pow10Tab.map (Value.int .u64) := by kernel_rfl
  rw [e2] at h2
  have h3 := flat_blk (d := Rows.laid_undertow_ops_lasts) (g := 2) (t := 74) 8 hL (List.mem_of_getElem? (i := 3) rfl) hp (by kernel_rfl) (by kernel_rfl) (by kernel_rfl)
  have e3 : flatD 8 Rows.laid_undertow_ops_lasts = lsL.map (Value.int .i64) := by kernel_rfl
  rw [e3] at h3
  have h4 := flat_blk (d := Rows.laid_undertow_ops_names) (g := 0) (t := 65) 8 hL (List.mem_of_getElem? (i := 4) rfl) hp (by kernel_rfl) (by kernel_rfl) (by kernel_rfl)
  have e4 : flatD 8 Rows.laid_undertow_ops_names = n0L.map tx := by kernel_rfl
  rw [e4] at h4
  have h5 := tabI_of (d := Rows.laid_undertow_field_layouts) (g := 4) (t := 95) tabL hL (List.mem_of_getElem? (i := 5) rfl) hp (by kernel_rfl) (by kernel_rfl) (by kernel_rfl) (by kernel_rfl)
  have h6 := flat_met (d := Rows.laid_undertow_show_shapes) (g := 1) (t := 66) 8 hL (List.mem_of_getElem? (i := 6) rfl) hp (by kernel_rfl) (by kernel_rfl) (by kernel_rfl)
  have e6 : flatD 8 Rows.laid_undertow_show_shapes = shpL.map tx := by kernel_rfl
  rw [e6] at h6
  have hS : TabS W := fun i hi => h6 i _ (by rw [List.getElem?_map, List.getD_eq_getElem?_getD, List.getElem?_eq_getElem hi]; rfl)
  exact ⟨⟨h3, h5⟩, h4, hS, h2⟩

/-! ### The laws as the claims ask them -/
theorem showTexts_law (i : Ins) (W : World) (hL : laidMetH Tryd.prog Rows.showTextsRow.laid W) (wo : I64 i.op) :
    Calls Tryd.prog 3 #[insV i] W fun e w' => e = .returned (.bool true) ∧ Below W.heap.size W w' := texts_law (tab9_laid hL) i wo
theorem showNumbers_law (q : ByteArray) (n : Int) (W : World) (hL : laidMetH Tryd.prog Rows.showNumbersRow.laid W) (wn : (Lit.int .i64 n).wf = true) :
    Calls Tryd.prog 5 #[.string q, .int .i64 n] W fun e w' => e = .returned (.bool true) ∧ Below W.heap.size W w' := numbers_law (tab9_laid hL) q n (wf_i64_out wn)
theorem showBack_law (i k : Ins) (q : ByteArray) (W : World) (hL : laidMetH Tryd.prog Rows.showBackRow.laid W) (wi : I64 i.op) (wk : I64 k.op) :
    Calls Tryd.prog 6 #[insV i, insV k, .string q] W fun e w' => e = .returned (.bool true) ∧ Below W.heap.size W w' := back_law9 (tab9_laid hL) i k q wi wk
end Go.Proofs.YtdpbiboldmoadaaDoor
