/- The tables that the rows list; the laws of layer 6 as the claims ask them (over 'cdec', what is asked of package decode, proved of the code). -/
import Derived.Test.YtbnacdhhacafkaaDoorRows
import Derived.Test.YtbnacdhhacafkaaDoorOi
import Derived.Test.YtbnacdhhacafkaaDoorLd
import Derived.Test.YtbnacdhhacafkaaDoorCde
import Derived.Test.YtbnacdhhacafkaaDoorLwx
import Derived.WalkKit
import Derived.ProofKit
import Derived.OpenShut
import Derived.Laws.Cover2
namespace Go.Proofs.YtbnacdhhacafkaaDoor
open Go.ChangeShapes Go.WideShapes Go.ChangeAt Go.RowKit Go.Deep

theorem tabI_of {laid : List (String × DataW Unit)} {W : World} {name : String} {d : DataW Unit} {g : Nat} {t : TypeId} (l : List Int) (hL : laidMetH Tryd.prog laid W) (hm : (name, d) ∈ laid) (hp : (laid.all fun x => x.2.handleName?.isNone) = true)
    (hg : Tryd.prog.globalNamed name = some g) (hty : (Tryd.prog.globals[g]?).map (·.type) = some t) (hf : flatT Tryd.prog 8 t = true) (e : flatD 8 d = l.map (Value.int .i64)) : TabI g l W := by
  have h := flat_met 8 hL hm hp hg hty hf
  intro i hi
  refine h i _ ?_
  rw [e, List.getElem?_map, List.getD_eq_getElem?_getD, List.getElem?_eq_getElem hi]
  rfl
theorem tabU_of {laid : List (String × DataW Unit)} {W : World} {name : String} {d : DataW Unit} {g : Nat} {t : TypeId} (l : List Int) (hL : laidMetH Tryd.prog laid W) (hm : (name, d) ∈ laid) (hp : (laid.all fun x => x.2.handleName?.isNone) = true)
    (hg : Tryd.prog.globalNamed name = some g) (hty : (Tryd.prog.globals[g]?).map (·.type) = some t) (hf : flatT Tryd.prog 8 t = true) (e : flatD 8 d = l.map (Value.int .u32)) : TabU g l W := by
  have h := flat_met 8 hL hm hp hg hty hf
  intro i hi
  refine h i _ ?_
  rw [e, List.getElem?_map, List.getD_eq_getElem?_getD, List.getElem?_eq_getElem hi]
  rfl
theorem tab6_laid {W : World} (hL : laidMetH Tryd.prog Rows.decodeWordsRow.laid W) : Tab6 W := by
  have hp : (Rows.decodeWordsRow.laid.all fun x => x.2.handleName?.isNone) = true := by kernel_rfl
  have h0 := flat_blk (d := Rows.laid_undertow_ops_lasts) (g := 1) (t := 54) 8 hL (List.mem_of_getElem? (i := 0) rfl) hp (by kernel_rfl) (by kernel_rfl) (by kernel_rfl)
  have e0 : flatD 8 Rows.laid_undertow_ops_lasts = lsL.map (Value.int .i64) := by kernel_rfl
  rw [e0] at h0
  have h1 := tabI_of (d := Rows.laid_undertow_field_layouts) (g := 19) (t := 67) tabL hL (List.mem_of_getElem? (i := 1) rfl) hp (by kernel_rfl) (by kernel_rfl) (by kernel_rfl) (by kernel_rfl)
  have h2 := tabI_of (d := Rows.laid_undertow_decode_jalrs) (g := 2) (t := 56) jalrL hL (List.mem_of_getElem? (i := 2) rfl) hp (by kernel_rfl) (by kernel_rfl) (by kernel_rfl) (by kernel_rfl)
  have h3 := tabI_of (d := Rows.laid_undertow_decode_branches) (g := 3) (t := 56) branchL hL (List.mem_of_getElem? (i := 3) rfl) hp (by kernel_rfl) (by kernel_rfl) (by kernel_rfl) (by kernel_rfl)
  have h4 := tabI_of (d := Rows.laid_undertow_decode_loads) (g := 4) (t := 56) loadL hL (List.mem_of_getElem? (i := 4) rfl) hp (by kernel_rfl) (by kernel_rfl) (by kernel_rfl) (by kernel_rfl)
  have h5 := tabI_of (d := Rows.laid_undertow_decode_stores) (g := 5) (t := 56) storeL hL (List.mem_of_getElem? (i := 5) rfl) hp (by kernel_rfl) (by kernel_rfl) (by kernel_rfl) (by kernel_rfl)
  have h6 := tabI_of (d := Rows.laid_undertow_decode_fences) (g := 16) (t := 56) fenceL hL (List.mem_of_getElem? (i := 6) rfl) hp (by kernel_rfl) (by kernel_rfl) (by kernel_rfl) (by kernel_rfl)
  have h7 := tabI_of (d := Rows.laid_undertow_decode_numbers) (g := 10) (t := 56) numL hL (List.mem_of_getElem? (i := 7) rfl) hp (by kernel_rfl) (by kernel_rfl) (by kernel_rfl) (by kernel_rfl)
  have h8 := tabI_of (d := Rows.laid_undertow_decode_shifts) (g := 11) (t := 56) shiL hL (List.mem_of_getElem? (i := 8) rfl) hp (by kernel_rfl) (by kernel_rfl) (by kernel_rfl) (by kernel_rfl)
  have h9 := tabI_of (d := Rows.laid_undertow_decode_otherShifts) (g := 12) (t := 56) oshiL hL (List.mem_of_getElem? (i := 9) rfl) hp (by kernel_rfl) (by kernel_rfl) (by kernel_rfl) (by kernel_rfl)
  have h10 := tabI_of (d := Rows.laid_undertow_decode_numbersWord) (g := 13) (t := 56) numwL hL (List.mem_of_getElem? (i := 10) rfl) hp (by kernel_rfl) (by kernel_rfl) (by kernel_rfl) (by kernel_rfl)
  have h11 := tabI_of (d := Rows.laid_undertow_decode_shiftsWord) (g := 14) (t := 56) shiwL hL (List.mem_of_getElem? (i := 11) rfl) hp (by kernel_rfl) (by kernel_rfl) (by kernel_rfl) (by kernel_rfl)
  have h12 := tabI_of (d := Rows.laid_undertow_decode_otherShiftsWord) (g := 15) (t := 56) oshiwL hL (List.mem_of_getElem? (i := 12) rfl) hp (by kernel_rfl) (by kernel_rfl) (by kernel_rfl) (by kernel_rfl)
  have h13 := tabI_of (d := Rows.laid_undertow_decode_pairs) (g := 6) (t := 56) pairL hL (List.mem_of_getElem? (i := 13) rfl) hp (by kernel_rfl) (by kernel_rfl) (by kernel_rfl) (by kernel_rfl)
  have h14 := tabI_of (d := Rows.laid_undertow_decode_otherPairs) (g := 7) (t := 56) opairL hL (List.mem_of_getElem? (i := 14) rfl) hp (by kernel_rfl) (by kernel_rfl) (by kernel_rfl) (by kernel_rfl)
  have h15 := tabI_of (d := Rows.laid_undertow_decode_pairsWord) (g := 8) (t := 56) pairwL hL (List.mem_of_getElem? (i := 15) rfl) hp (by kernel_rfl) (by kernel_rfl) (by kernel_rfl) (by kernel_rfl)
  have h16 := tabI_of (d := Rows.laid_undertow_decode_otherPairsWord) (g := 9) (t := 56) opairwL hL (List.mem_of_getElem? (i := 16) rfl) hp (by kernel_rfl) (by kernel_rfl) (by kernel_rfl) (by kernel_rfl)
  have h17 := tabI_of (d := Rows.laid_undertow_decode_atomicsWord) (g := 17) (t := 59) atwL hL (List.mem_of_getElem? (i := 17) rfl) hp (by kernel_rfl) (by kernel_rfl) (by kernel_rfl) (by kernel_rfl)
  have h18 := tabI_of (d := Rows.laid_undertow_decode_atomicsDouble) (g := 18) (t := 59) atdL hL (List.mem_of_getElem? (i := 18) rfl) hp (by kernel_rfl) (by kernel_rfl) (by kernel_rfl) (by kernel_rfl)
  have hs := tabU_of (d := Rows.laid_undertow_decode_sortOpcodes) (g := 0) (t := 41) soL hL (List.mem_of_getElem? (i := 19) rfl) hp (by kernel_rfl) (by kernel_rfl) (by kernel_rfl) (by kernel_rfl)
  exact ⟨h2, h3, h4, h5, h6, h7, h8, h9, h10, h11, h12, h13, h14, h15, h16, h17, h18, hs, h0, h1⟩

/-! ### The laws as the claims ask them -/
theorem decodeWords_law (v : Int) (W : World) (hL : laidMetH Tryd.prog Rows.decodeWordsRow.laid W) (wv : (Lit.int .u32 v).wf = true) :
    Calls Tryd.prog 3 #[.int .u32 v] W fun e w' => e = .returned (.bool true) ∧ Below W.heap.size W w' := words_law (cdec (tab6_laid hL)) v (wf_u32_out wv)
theorem decodeFields_law (op v : Int) (W : World) (hL : laidMetH Tryd.prog Rows.decodeFieldsRow.laid W) (wo : (Lit.int .i64 op).wf = true) (wv : (Lit.int .u32 v).wf = true) :
    Calls Tryd.prog 4 #[.int .i64 op, .int .u32 v] W fun e w' => e = .returned (.bool true) ∧ Below W.heap.size W w' := fields_law (cdec (tab6_laid hL)) op v (wf_i64_out wo) (wf_u32_out wv)
theorem decodeCleans_law (i : Ins) (W : World) (hL : laidMetH Tryd.prog Rows.decodeCleansRow.laid W) (wo : I64 i.op) :
    Calls Tryd.prog 5 #[insV i] W fun e w' => e = .returned (.bool true) ∧ Below W.heap.size W w' := cleans_law (cdec (tab6_laid hL)) i wo
theorem decodeSome_law (v o : Int) (W : World) (hL : laidMetH Tryd.prog Rows.decodeSomeRow.laid W) (wv : (Lit.int .u32 v).wf = true) (wo : (Lit.int .u32 o).wf = true) :
    Calls Tryd.prog 6 #[.int .u32 v, .int .u32 o] W fun e w' => e = .returned (.bool true) ∧ Below W.heap.size W w' := some_law (cdec (tab6_laid hL)) v o (wf_u32_out wv) (wf_u32_out wo)
end Go.Proofs.YtbnacdhhacafkaaDoor
