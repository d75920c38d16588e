/- The tables that the rows list; the laws of layer 7 as the claims ask them (over 'cenc', what is asked of package encode, proved of the code). -/
import Derived.Test.YtlmllpielifepaaDoorRows
import Derived.Test.YtlmllpielifepaaDoorBa
import Derived.Test.YtlmllpielifepaaDoorCwx
import Derived.Test.YtlmllpielifepaaDoorElp
import Derived.Test.YtlmllpielifepaaDoorLw7
import Derived.WalkKit
import Derived.ProofKit
import Derived.OpenShut
import Derived.Laws.Cover2
namespace Go.Proofs.YtlmllpielifepaaDoor
open Go.ChangeShapes Go.WideShapes Go.ChangeAt Go.RowKit Go.Deep

theorem tab7_laid {W : World} (hL : laidMetH Tryd.prog Rows.encodeWordsRow.laid W) : Tab7 W := by
  have hp : (Rows.encodeWordsRow.laid.all fun x => x.2.handleName?.isNone) = true := by kernel_rfl
  have h0 := flat_blk (d := Rows.laid_undertow_ops_lasts) (g := 3) (t := 69) 8 hL (List.mem_of_getElem? (i := 0) rfl) hp (by kernel_rfl) (by kernel_rfl) (by kernel_rfl)
  have e0 : flatD 8 Rows.laid_undertow_ops_lasts = lsL.map (Value.int .i64) := by kernel_rfl
  rw [e0] at h0
  have h1 := tabI_of (d := Rows.laid_undertow_field_layouts) (g := 21) (t := 89) tabL hL (List.mem_of_getElem? (i := 1) rfl) hp (by kernel_rfl) (by kernel_rfl) (by kernel_rfl) (by kernel_rfl)
  have h2 := tabI_of (d := Rows.laid_undertow_decode_jalrs) (g := 4) (t := 75) jalrL hL (List.mem_of_getElem? (i := 2) rfl) hp (by kernel_rfl) (by kernel_rfl) (by kernel_rfl) (by kernel_rfl)
  have h3 := tabI_of (d := Rows.laid_undertow_decode_branches) (g := 5) (t := 75) branchL hL (List.mem_of_getElem? (i := 3) rfl) hp (by kernel_rfl) (by kernel_rfl) (by kernel_rfl) (by kernel_rfl)
  have h4 := tabI_of (d := Rows.laid_undertow_decode_loads) (g := 6) (t := 75) loadL hL (List.mem_of_getElem? (i := 4) rfl) hp (by kernel_rfl) (by kernel_rfl) (by kernel_rfl) (by kernel_rfl)
  have h5 := tabI_of (d := Rows.laid_undertow_decode_stores) (g := 7) (t := 75) storeL hL (List.mem_of_getElem? (i := 5) rfl) hp (by kernel_rfl) (by kernel_rfl) (by kernel_rfl) (by kernel_rfl)
  have h6 := tabI_of (d := Rows.laid_undertow_decode_fences) (g := 18) (t := 75) fenceL hL (List.mem_of_getElem? (i := 6) rfl) hp (by kernel_rfl) (by kernel_rfl) (by kernel_rfl) (by kernel_rfl)
  have h7 := tabI_of (d := Rows.laid_undertow_decode_numbers) (g := 12) (t := 75) numL hL (List.mem_of_getElem? (i := 7) rfl) hp (by kernel_rfl) (by kernel_rfl) (by kernel_rfl) (by kernel_rfl)
  have h8 := tabI_of (d := Rows.laid_undertow_decode_shifts) (g := 13) (t := 75) shiL hL (List.mem_of_getElem? (i := 8) rfl) hp (by kernel_rfl) (by kernel_rfl) (by kernel_rfl) (by kernel_rfl)
  have h9 := tabI_of (d := Rows.laid_undertow_decode_otherShifts) (g := 14) (t := 75) oshiL hL (List.mem_of_getElem? (i := 9) rfl) hp (by kernel_rfl) (by kernel_rfl) (by kernel_rfl) (by kernel_rfl)
  have h10 := tabI_of (d := Rows.laid_undertow_decode_numbersWord) (g := 15) (t := 75) numwL hL (List.mem_of_getElem? (i := 10) rfl) hp (by kernel_rfl) (by kernel_rfl) (by kernel_rfl) (by kernel_rfl)
  have h11 := tabI_of (d := Rows.laid_undertow_decode_shiftsWord) (g := 16) (t := 75) shiwL hL (List.mem_of_getElem? (i := 11) rfl) hp (by kernel_rfl) (by kernel_rfl) (by kernel_rfl) (by kernel_rfl)
  have h12 := tabI_of (d := Rows.laid_undertow_decode_otherShiftsWord) (g := 17) (t := 75) oshiwL hL (List.mem_of_getElem? (i := 12) rfl) hp (by kernel_rfl) (by kernel_rfl) (by kernel_rfl) (by kernel_rfl)
  have h13 := tabI_of (d := Rows.laid_undertow_decode_pairs) (g := 8) (t := 75) pairL hL (List.mem_of_getElem? (i := 13) rfl) hp (by kernel_rfl) (by kernel_rfl) (by kernel_rfl) (by kernel_rfl)
  have h14 := tabI_of (d := Rows.laid_undertow_decode_otherPairs) (g := 9) (t := 75) opairL hL (List.mem_of_getElem? (i := 14) rfl) hp (by kernel_rfl) (by kernel_rfl) (by kernel_rfl) (by kernel_rfl)
  have h15 := tabI_of (d := Rows.laid_undertow_decode_pairsWord) (g := 10) (t := 75) pairwL hL (List.mem_of_getElem? (i := 15) rfl) hp (by kernel_rfl) (by kernel_rfl) (by kernel_rfl) (by kernel_rfl)
  have h16 := tabI_of (d := Rows.laid_undertow_decode_otherPairsWord) (g := 11) (t := 75) opairwL hL (List.mem_of_getElem? (i := 16) rfl) hp (by kernel_rfl) (by kernel_rfl) (by kernel_rfl) (by kernel_rfl)
  have h17 := tabI_of (d := Rows.laid_undertow_decode_atomicsWord) (g := 19) (t := 71) atwL hL (List.mem_of_getElem? (i := 17) rfl) hp (by kernel_rfl) (by kernel_rfl) (by kernel_rfl) (by kernel_rfl)
  have h18 := tabI_of (d := Rows.laid_undertow_decode_atomicsDouble) (g := 20) (t := 71) atdL hL (List.mem_of_getElem? (i := 18) rfl) hp (by kernel_rfl) (by kernel_rfl) (by kernel_rfl) (by kernel_rfl)
  have hs := tabU_of (d := Rows.laid_undertow_decode_sortOpcodes) (g := 2) (t := 66) soL hL (List.mem_of_getElem? (i := 19) rfl) hp (by kernel_rfl) (by kernel_rfl) (by kernel_rfl) (by kernel_rfl)
  have ht := tabI_of (d := Rows.laid_undertow_encode_thirds) (g := 0) (t := 50) thL hL (List.mem_of_getElem? (i := 20) rfl) hp (by kernel_rfl) (by kernel_rfl) (by kernel_rfl) (by kernel_rfl)
  have hu := tabI_of (d := Rows.laid_undertow_encode_uppers) (g := 1) (t := 50) upL hL (List.mem_of_getElem? (i := 21) rfl) hp (by kernel_rfl) (by kernel_rfl) (by kernel_rfl) (by kernel_rfl)
  exact ⟨⟨h2, h3, h4, h5, h6, h7, h8, h9, h10, h11, h12, h13, h14, h15, h16, h17, h18, hs, h0, h1⟩, ht, hu⟩

/-! ### The laws as the claims ask them -/
theorem ask7 {W : World} (T : Tab7 W) : AskDecode W := fun v w h hv => decode_c v hv w (T.below h).dec
theorem encodeWords_law (i : Ins) (W : World) (hL : laidMetH Tryd.prog Rows.encodeWordsRow.laid W) (wo : I64 i.op) :
    Calls Tryd.prog 3 #[insV i] W fun e w' => e = .returned (.bool true) ∧ Below W.heap.size W w' := words_law (cenc (tab7_laid hL)) i wo
theorem encodeBack_law (i : Ins) (v : Int) (W : World) (hL : laidMetH Tryd.prog Rows.encodeBackRow.laid W) (wo : I64 i.op) (wv : (Lit.int .u32 v).wf = true) :
    Calls Tryd.prog 5 #[insV i, .int .u32 v] W fun e w' => e = .returned (.bool true) ∧ Below W.heap.size W w' := back_law (cenc (tab7_laid hL)) (ask7 (tab7_laid hL)) i v wo (wf_u32_out wv)
theorem encodeUnlike_law (i k : Ins) (W : World) (hL : laidMetH Tryd.prog Rows.encodeUnlikeRow.laid W) (wo : I64 i.op) (wk : I64 k.op) :
    Calls Tryd.prog 6 #[insV i, insV k] W fun e w' => e = .returned (.bool true) ∧ Below W.heap.size W w' := unlike_law (cenc (tab7_laid hL)) i k wo wk
theorem encodePrograms_law (A : Option Addr) (cap : Nat) (l : List Ins) (B : Option Addr) (bap : Nat) (bs : List Int) (W : World) (hL : laidMetH Tryd.prog Rows.encodeProgramsRow.laid W)
    (hm : l.length ≤ cap) (hc : cap ≤ 9223372036854775807) (_ : A = none → cap = 0 ∧ l = []) (hw : Wi l) (hr : Rd W W.heap.size A (cellsN l)) (hbm : bs.length ≤ bap) (hbc : bap ≤ 9223372036854775807) (hbw : ∀ z ∈ bs, (Lit.int .u8 z).wf = true) (hrb : Rd W W.heap.size B (bs.map (Value.int .u8))) :
    Calls Tryd.prog 4 #[.slice A l.length cap, .slice B bs.length bap] W fun e w' => e = .returned (.bool true) ∧ Below W.heap.size W w' :=
  programs_law (cenc (tab7_laid hL)) (askProgram (tab7_laid hL)) A cap l B bap bs (by omega) hbm hbc hr hrb hw (fun z hz => wf_u8_out (hbw z hz))
end Go.Proofs.YtlmllpielifepaaDoor
