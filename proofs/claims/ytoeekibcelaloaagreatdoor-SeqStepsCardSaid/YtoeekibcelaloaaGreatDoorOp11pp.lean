/- Of stage 11. -/
import Derived.Test.YtoeekibcelaloaaGreatDoorQsp
set_option maxRecDepth 100000
namespace Go.Proofs.YtoeekibcelaloaaGreatDoor
open Go.ChangeShapes Go.WideShapes Go.ChangeAt Go.RowKit Go.Deep
theorem zD5 {W : World} (hL : laidMetH Tryz.prog Rows.seqStepsRow.laid W) : TabQ W := by
  have hp : (Rows.seqStepsRow.laid.all fun x => x.2.handleName?.isNone) = true := by kernel_rfl
  have h_ops_lasts := zO4 (d := Rows.laid_undertow_ops_lasts) (g := 0) (t := 93) 8 hL (List.mem_of_getElem? (i := 0) rfl) hp (by kernel_rfl) (by kernel_rfl) (by kernel_rfl)
  rw [show zo8 8 Rows.laid_undertow_ops_lasts = lsL.map (Value.int .i64) by kernel_rfl] at h_ops_lasts
  have h_ops_names := zO4 (d := Rows.laid_undertow_ops_names) (g := 8) (t := 189) 8 hL (List.mem_of_getElem? (i := 1) rfl) hp (by kernel_rfl) (by kernel_rfl) (by kernel_rfl)
  rw [show zo8 8 Rows.laid_undertow_ops_names = n0L.map tx by kernel_rfl] at h_ops_names
  -- UNKNOWN 2 undertow/alu.pairs
  have h_field_layouts := Zo4 (d := Rows.laid_undertow_field_layouts) (g := 1) (t := 142) tabL hL (List.mem_of_getElem? (i := 3) rfl) hp (by kernel_rfl) (by kernel_rfl) (by kernel_rfl) (by kernel_rfl)
  -- UNKNOWN 4 unicode/utf8.acceptRanges
  have h_decode_sortOpcodes := tabU_of (d := Rows.laid_undertow_decode_sortOpcodes) (g := 3) (t := 159) soL hL (List.mem_of_getElem? (i := 5) rfl) hp (by kernel_rfl) (by kernel_rfl) (by kernel_rfl) (by kernel_rfl)
  have h_show_shapes := zD7 (d := Rows.laid_undertow_show_shapes) (g := 5) (t := 181) 8 hL (List.mem_of_getElem? (i := 6) rfl) hp (by kernel_rfl) (by kernel_rfl) (by kernel_rfl)
  rw [show zo8 8 Rows.laid_undertow_show_shapes = shpL.map tx by kernel_rfl] at h_show_shapes
  -- UNKNOWN 7 unicode/utf8.first
  have h_alu_pairs := Zo4 (d := Rows.laid_undertow_alu_pairs) (g := 2) (t := 93) Zl6 hL (List.mem_of_getElem? (i := 2) rfl) hp (by kernel_rfl) (by kernel_rfl) (by kernel_rfl) (by kernel_rfl)
  have hS : TabS W := fun i hi => h_show_shapes i _ (by rw [List.getElem?_map, List.getD_eq_getElem?_getD, List.getElem?_eq_getElem hi]; rfl)
  have h6 : Tab6 W := ⟨h_decode_sortOpcodes, h_ops_lasts, h_field_layouts⟩
  exact ⟨⟨h6, h_ops_names, hS⟩, ⟨h6⟩, ⟨h6, ⟨h_ops_lasts, h_alu_pairs⟩⟩⟩
theorem seqSteps_law (h : Hrt) (A : Option Addr) (cap : Nat) (l : List Int) (read : Int) (failed : Bool) (W : World) (hL : laidMetH Tryz.prog Rows.seqStepsRow.laid W) (hw : Wh h) (hm : l.length ≤ cap) (hc : cap ≤ 9223372036854775807) (hb : ∀ z ∈ l, (Lit.int .u8 z).wf = true) (hr : Rd W W.heap.size A (l.map (Value.int .u8))) (wr : (Lit.int .u64 read).wf = true) :
    Calls Tryz.prog 3 #[.agg (za2 h), .slice A l.length cap, .int .u64 read, .bool failed] W fun e w' => e = .returned (.bool true) ∧ Below W.heap.size W w' :=
  have T := zD5 hL
  Zi3 T h hw A cap l (fun z hz => zZ6 (hb z hz)) (by omega) hm hc hr read (zn9 wr) failed
end Go.Proofs.YtoeekibcelaloaaGreatDoor
