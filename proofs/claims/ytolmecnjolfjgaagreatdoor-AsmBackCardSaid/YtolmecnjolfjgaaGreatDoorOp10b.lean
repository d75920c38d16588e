/- The tables that a row of stage 10 lists; its law as the claim asks it. -/
import Derived.Test.YtolmecnjolfjgaaGreatDoorRows
import Derived.Test.YtolmecnjolfjgaaGreatDoorBa
import Derived.Test.YtolmecnjolfjgaaGreatDoorTi
import Derived.Test.YtolmecnjolfjgaaGreatDoorLb10
import Derived.WalkKit
import Derived.ProofKit
import Derived.OpenShut
import Derived.Laws.Cover2
set_option maxRecDepth 100000
namespace Go.Proofs.YtolmecnjolfjgaaGreatDoor
open Go.ChangeShapes Go.WideShapes Go.ChangeAt Go.RowKit Go.Deep

theorem asmBack_tabs {W : World} (hL : laidMetH Tryz.prog Rows.asmBackRow.laid W) : Tab9 W ∧ Tab7 W := by
  have hp : (Rows.asmBackRow.laid.all fun x => x.2.handleName?.isNone) = true := by kernel_rfl
  have h_internal_strconv_uint64pow10 := flat_blk (d := Rows.laid_internal_strconv_uint64pow10) (g := 6) (t := 191) 8 hL (List.mem_of_getElem? (i := 2) rfl) hp (by kernel_rfl) (by kernel_rfl) (by kernel_rfl)
  rw [show flatD 8 Rows.laid_internal_strconv_uint64pow10 = Lib.pow10Tab.map (Value.int .u64) by kernel_rfl] at h_internal_strconv_uint64pow10
  have h_ops_lasts := flat_blk (d := Rows.laid_undertow_ops_lasts) (g := 0) (t := 128) 8 hL (List.mem_of_getElem? (i := 3) rfl) hp (by kernel_rfl) (by kernel_rfl) (by kernel_rfl)
  rw [show flatD 8 Rows.laid_undertow_ops_lasts = lsL.map (Value.int .i64) by kernel_rfl] at h_ops_lasts
  have h_ops_names := flat_blk (d := Rows.laid_undertow_ops_names) (g := 1) (t := 135) 8 hL (List.mem_of_getElem? (i := 4) rfl) hp (by kernel_rfl) (by kernel_rfl) (by kernel_rfl)
  rw [show flatD 8 Rows.laid_undertow_ops_names = n0L.map tx by kernel_rfl] at h_ops_names
  have h_field_layouts := tabI_of (d := Rows.laid_undertow_field_layouts) (g := 4) (t := 186) tabL hL (List.mem_of_getElem? (i := 5) rfl) hp (by kernel_rfl) (by kernel_rfl) (by kernel_rfl) (by kernel_rfl)
  -- UNKNOWN 6 unicode/utf8.acceptRanges
  have h_decode_sortOpcodes := tabU_of (d := Rows.laid_undertow_decode_sortOpcodes) (g := 3) (t := 161) soL hL (List.mem_of_getElem? (i := 7) rfl) hp (by kernel_rfl) (by kernel_rfl) (by kernel_rfl) (by kernel_rfl)
  have h_show_shapes := flat_met (d := Rows.laid_undertow_show_shapes) (g := 2) (t := 136) 8 hL (List.mem_of_getElem? (i := 8) rfl) hp (by kernel_rfl) (by kernel_rfl) (by kernel_rfl)
  rw [show flatD 8 Rows.laid_undertow_show_shapes = shpL.map tx by kernel_rfl] at h_show_shapes
  -- UNKNOWN 9 unicode/utf8.first
  have hS : TabS W := fun i hi => h_show_shapes i _ (by rw [List.getElem?_map, List.getD_eq_getElem?_getD, List.getElem?_eq_getElem hi]; rfl)
  have h6 : Tab6 W := ⟨h_decode_sortOpcodes, h_ops_lasts, h_field_layouts⟩
  exact ⟨⟨h6, h_ops_names, hS, h_internal_strconv_uint64pow10⟩, ⟨h6⟩⟩

theorem asmBack_law (A : Option Addr) (cap : Nat) (l : List Int) (W : World) (hL : laidMetH Tryz.prog Rows.asmBackRow.laid W) (hm : l.length ≤ cap) (hc : cap ≤ 9223372036854775807) (hw : ∀ z ∈ l, (Lit.int .u8 z).wf = true) (hr : Rd W W.heap.size A (l.map (Value.int .u8))) :
    Calls Tryz.prog 4 #[.slice A l.length cap] W fun e w' => e = .returned (.bool true) ∧ Below W.heap.size W w' :=
  back_law10 (asmBack_tabs hL).1 (asmBack_tabs hL).2 A cap l (fun z hz => wf_u8_out (hw z hz)) (by omega) hm hc hr
end Go.Proofs.YtolmecnjolfjgaaGreatDoor
