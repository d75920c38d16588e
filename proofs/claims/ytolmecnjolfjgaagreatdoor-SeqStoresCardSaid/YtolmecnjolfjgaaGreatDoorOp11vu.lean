/- The tables that the row of SeqStores lists; the law as the claim asks it. -/
import Derived.Test.YtolmecnjolfjgaaGreatDoorRows
import Derived.Test.YtolmecnjolfjgaaGreatDoorBau
import Derived.Test.YtolmecnjolfjgaaGreatDoorTiu
import Derived.Test.YtolmecnjolfjgaaGreatDoorQ0u
import Derived.Test.YtolmecnjolfjgaaGreatDoorQvu
import Derived.WalkKit
import Derived.ProofKit
import Derived.OpenShut
import Derived.Laws.Cover2
set_option maxRecDepth 100000
namespace Go.Proofs.YtolmecnjolfjgaaGreatDoor
open Go.ChangeShapes Go.WideShapes Go.ChangeAt Go.RowKit Go.Deep

theorem seqStores_tabs {W : World} (hL : laidMetH Tryz.prog Rows.seqStoresRow.laid W) : TabQ W := by
  have hp : (Rows.seqStoresRow.laid.all fun x => x.2.handleName?.isNone) = true := by kernel_rfl
  have h_ops_lasts := flat_blk (d := Rows.laid_undertow_ops_lasts) (g := 0) (t := 128) 8 hL (List.mem_of_getElem? (i := 0) rfl) hp (by kernel_rfl) (by kernel_rfl) (by kernel_rfl)
  rw [show flatD 8 Rows.laid_undertow_ops_lasts = lsL.map (Value.int .i64) by kernel_rfl] at h_ops_lasts
  have h_ops_names := flat_blk (d := Rows.laid_undertow_ops_names) (g := 1) (t := 135) 8 hL (List.mem_of_getElem? (i := 1) rfl) hp (by kernel_rfl) (by kernel_rfl) (by kernel_rfl)
  rw [show flatD 8 Rows.laid_undertow_ops_names = n0L.map tx by kernel_rfl] at h_ops_names
  -- UNKNOWN 2 undertow/alu.pairs
  have h_field_layouts := tabI_of (d := Rows.laid_undertow_field_layouts) (g := 4) (t := 186) tabL hL (List.mem_of_getElem? (i := 3) rfl) hp (by kernel_rfl) (by kernel_rfl) (by kernel_rfl) (by kernel_rfl)
  -- UNKNOWN 4 unicode/utf8.acceptRanges
  have h_decode_sortOpcodes := tabU_of (d := Rows.laid_undertow_decode_sortOpcodes) (g := 3) (t := 161) soL hL (List.mem_of_getElem? (i := 5) rfl) hp (by kernel_rfl) (by kernel_rfl) (by kernel_rfl) (by kernel_rfl)
  have h_show_shapes := flat_met (d := Rows.laid_undertow_show_shapes) (g := 2) (t := 136) 8 hL (List.mem_of_getElem? (i := 6) rfl) hp (by kernel_rfl) (by kernel_rfl) (by kernel_rfl)
  rw [show flatD 8 Rows.laid_undertow_show_shapes = shpL.map tx by kernel_rfl] at h_show_shapes
  -- UNKNOWN 7 unicode/utf8.first
  have h_alu_pairs := tabI_of (d := Rows.laid_undertow_alu_pairs) (g := 5) (t := 128) numL8 hL (List.mem_of_getElem? (i := 2) rfl) hp (by kernel_rfl) (by kernel_rfl) (by kernel_rfl) (by kernel_rfl)
  have hS : TabS W := fun i hi => h_show_shapes i _ (by rw [List.getElem?_map, List.getD_eq_getElem?_getD, List.getElem?_eq_getElem hi]; rfl)
  have h6 : Tab6 W := ⟨h_decode_sortOpcodes, h_ops_lasts, h_field_layouts⟩
  exact ⟨⟨h6, h_ops_names, hS⟩, ⟨h6⟩, ⟨h6, ⟨h_ops_lasts, h_alu_pairs⟩⟩⟩
theorem seqStores_law (at_ value n : Int) (W : World) (hL : laidMetH Tryz.prog Rows.seqStoresRow.laid W) (wa : (Lit.int .u8 at_).wf = true) (wv : (Lit.int .u64 value).wf = true) (wn : (Lit.int .u8 n).wf = true) :
    Calls Tryz.prog 9 #[.int .u8 at_, .int .u64 value, .int .u8 n] W fun e w' => e = .returned (.bool true) ∧ Below W.heap.size W w' :=
  have T := seqStores_tabs hL
  stores_law T at_ value n (wf_u8_out wa) (wf_u64_out wv) (wf_u8_out wn)
end Go.Proofs.YtolmecnjolfjgaaGreatDoor
