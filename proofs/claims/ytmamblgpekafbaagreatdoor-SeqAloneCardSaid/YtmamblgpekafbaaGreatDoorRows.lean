/-
  NARROWER THAN 'FOR EVERY INPUT', by the rows' own cells (each row's printed sentence says how): SeqAlone: laid.
  DERIVED. THE GIVEN ROWS OF THIS SEAT. 1 by the template 'for every input the law returns true; each argument reads behind the call as it read before'; 0 by the template 'total and deterministic' (their statements: YtmamblgpekafbaaGreatDoorTotals.lean).
  GIVEN WITH THE SEED: the statements are not yours to turn. If you find one false, say at which input.
  Laid BY PROGRAM, IN A SANDBOX (cutbox-rows.mjs): the forced cells as the released guide's own fill.sh prints them over the translation 8a2ac9687b899d06… (all of the seat's roots in one cut). By AI agents, Wed Nov 11 2026. No macro, syntax, notation, axiom, sorry.
-/
import Derived.Test.YtmamblgpekafbaaGreatDoorChecked
import GoSem.PinnedTables
import GoSem.Claim
import GoSem.ClaimJoined
import GoSem.ClaimMapViews
import Derived.JoinedTies
import Derived.KernelRfl
namespace Go.Proofs.YtmamblgpekafbaaGreatDoor
/- THE CELL 'sum', in the pinned program and in every row, IS THE sha256 OF THE DUMP (.gsa) THAT YtmamblgpekafbaaGreatDoorProg.lean LOADS. Nothing in Lean hashes anything: it is a label: what it is worth is what the hold of that sum in a sandbox is worth. -/
noncomputable def Tryz.pinned : Pinned := { name := "ytmamblgpekafbaagreatdoor", sum := "8a2ac9687b899d065eea298766b3f50671ee8464692754e99e04398b13673778", checked := Tryz.checked }
namespace Rows
def none {H : Type} : Left H := { results := [], args := [] }

/- WHAT THE LISTED PACKAGE-LEVEL VARIABLES READ AS WHEN THE CALL BEGINS. Each datum BY PROGRAM (the guide's laid-datum.mjs) off the statement by which the dump's own 'gosem.cut.vars' lays the variable. In a bare row this is a premise. The card (YtmamblgpekafbaaGreatDoorCards.lean) ties it to the program's text. -/
def laid_undertow_ops_lasts {H : Type} : DataW H := .agg [.lit (.int .i64 0), .lit (.int .i64 2), .lit (.int .i64 4), .lit (.int .i64 10), .lit (.int .i64 17), .lit (.int .i64 21), .lit (.int .i64 34), .lit (.int .i64 49), .lit (.int .i64 51), .lit (.int .i64 53), .lit (.int .i64 55), .lit (.int .i64 57), .lit (.int .i64 75)]
def laid_undertow_ops_names {H : Type} : DataW H := .agg [.lit (.string []), .lit (.string [108, 117, 105]), .lit (.string [97, 117, 105, 112, 99]), .lit (.string [106, 97, 108]), .lit (.string [106, 97, 108, 114]), .lit (.string [98, 101, 113]), .lit (.string [98, 110, 101]), .lit (.string [98, 108, 116]), .lit (.string [98, 103, 101]), .lit (.string [98, 108, 116, 117]), .lit (.string [98, 103, 101, 117]), .lit (.string [108, 98]), .lit (.string [108, 104]), .lit (.string [108, 119]), .lit (.string [108, 100]), .lit (.string [108, 98, 117]), .lit (.string [108, 104, 117]), .lit (.string [108, 119, 117]), .lit (.string [115, 98]), .lit (.string [115, 104]), .lit (.string [115, 119]), .lit (.string [115, 100]), .lit (.string [97, 100, 100, 105]), .lit (.string [115, 108, 116, 105]), .lit (.string [115, 108, 116, 105, 117]), .lit (.string [120, 111, 114, 105]), .lit (.string [111, 114, 105]), .lit (.string [97, 110, 100, 105]), .lit (.string [115, 108, 108, 105]), .lit (.string [115, 114, 108, 105]), .lit (.string [115, 114, 97, 105]), .lit (.string [97, 100, 100, 105, 119]), .lit (.string [115, 108, 108, 105, 119]), .lit (.string [115, 114, 108, 105, 119]), .lit (.string [115, 114, 97, 105, 119]), .lit (.string [97, 100, 100]), .lit (.string [115, 117, 98]), .lit (.string [115, 108, 108]), .lit (.string [115, 108, 116]), .lit (.string [115, 108, 116, 117]), .lit (.string [120, 111, 114]), .lit (.string [115, 114, 108]), .lit (.string [115, 114, 97]), .lit (.string [111, 114]), .lit (.string [97, 110, 100]), .lit (.string [97, 100, 100, 119]), .lit (.string [115, 117, 98, 119]), .lit (.string [115, 108, 108, 119]), .lit (.string [115, 114, 108, 119]), .lit (.string [115, 114, 97, 119]), .lit (.string [102, 101, 110, 99, 101]), .lit (.string [102, 101, 110, 99, 101, 46, 116, 115, 111]), .lit (.string [101, 99, 97, 108, 108]), .lit (.string [101, 98, 114, 101, 97, 107]), .lit (.string [108, 114, 46, 119]), .lit (.string [108, 114, 46, 100]), .lit (.string [115, 99, 46, 119]), .lit (.string [115, 99, 46, 100]), .lit (.string [97, 109, 111, 115, 119, 97, 112, 46, 119]), .lit (.string [97, 109, 111, 97, 100, 100, 46, 119]), .lit (.string [97, 109, 111, 120, 111, 114, 46, 119]), .lit (.string [97, 109, 111, 97, 110, 100, 46, 119]), .lit (.string [97, 109, 111, 111, 114, 46, 119]), .lit (.string [97, 109, 111, 109, 105, 110, 46, 119]), .lit (.string [97, 109, 111, 109, 97, 120, 46, 119]), .lit (.string [97, 109, 111, 109, 105, 110, 117, 46, 119]), .lit (.string [97, 109, 111, 109, 97, 120, 117, 46, 119]), .lit (.string [97, 109, 111, 115, 119, 97, 112, 46, 100]), .lit (.string [97, 109, 111, 97, 100, 100, 46, 100]), .lit (.string [97, 109, 111, 120, 111, 114, 46, 100]), .lit (.string [97, 109, 111, 97, 110, 100, 46, 100]), .lit (.string [97, 109, 111, 111, 114, 46, 100]), .lit (.string [97, 109, 111, 109, 105, 110, 46, 100]), .lit (.string [97, 109, 111, 109, 97, 120, 46, 100]), .lit (.string [97, 109, 111, 109, 105, 110, 117, 46, 100]), .lit (.string [97, 109, 111, 109, 97, 120, 117, 46, 100])]
def laid_undertow_alu_pairs {H : Type} : DataW H := .agg [.lit (.int .i64 35), .lit (.int .i64 38), .lit (.int .i64 39), .lit (.int .i64 40), .lit (.int .i64 43), .lit (.int .i64 44), .lit (.int .i64 37), .lit (.int .i64 41), .lit (.int .i64 42), .lit (.int .i64 45), .lit (.int .i64 47), .lit (.int .i64 48), .lit (.int .i64 49)]
def laid_undertow_field_layouts {H : Type} : DataW H := .agg [.agg [.agg [.lit (.int .i64 0), .lit (.int .i64 0), .lit (.int .i64 0)], .agg [.lit (.int .i64 0), .lit (.int .i64 0), .lit (.int .i64 0)], .agg [.lit (.int .i64 0), .lit (.int .i64 0), .lit (.int .i64 0)], .agg [.lit (.int .i64 0), .lit (.int .i64 0), .lit (.int .i64 0)]], .agg [.agg [.lit (.int .i64 31), .lit (.int .i64 20), .lit (.int .i64 0)], .agg [.lit (.int .i64 0), .lit (.int .i64 0), .lit (.int .i64 0)], .agg [.lit (.int .i64 0), .lit (.int .i64 0), .lit (.int .i64 0)], .agg [.lit (.int .i64 0), .lit (.int .i64 0), .lit (.int .i64 0)]], .agg [.agg [.lit (.int .i64 31), .lit (.int .i64 25), .lit (.int .i64 5)], .agg [.lit (.int .i64 11), .lit (.int .i64 7), .lit (.int .i64 0)], .agg [.lit (.int .i64 0), .lit (.int .i64 0), .lit (.int .i64 0)], .agg [.lit (.int .i64 0), .lit (.int .i64 0), .lit (.int .i64 0)]], .agg [.agg [.lit (.int .i64 31), .lit (.int .i64 31), .lit (.int .i64 12)], .agg [.lit (.int .i64 7), .lit (.int .i64 7), .lit (.int .i64 11)], .agg [.lit (.int .i64 30), .lit (.int .i64 25), .lit (.int .i64 5)], .agg [.lit (.int .i64 11), .lit (.int .i64 8), .lit (.int .i64 1)]], .agg [.agg [.lit (.int .i64 31), .lit (.int .i64 12), .lit (.int .i64 12)], .agg [.lit (.int .i64 0), .lit (.int .i64 0), .lit (.int .i64 0)], .agg [.lit (.int .i64 0), .lit (.int .i64 0), .lit (.int .i64 0)], .agg [.lit (.int .i64 0), .lit (.int .i64 0), .lit (.int .i64 0)]], .agg [.agg [.lit (.int .i64 31), .lit (.int .i64 31), .lit (.int .i64 20)], .agg [.lit (.int .i64 19), .lit (.int .i64 12), .lit (.int .i64 12)], .agg [.lit (.int .i64 20), .lit (.int .i64 20), .lit (.int .i64 11)], .agg [.lit (.int .i64 30), .lit (.int .i64 21), .lit (.int .i64 1)]]]
def laid_unicode_utf8_acceptRanges {H : Type} : DataW H := .agg [.agg [.lit (.int .u8 128), .lit (.int .u8 191)], .agg [.lit (.int .u8 160), .lit (.int .u8 191)], .agg [.lit (.int .u8 128), .lit (.int .u8 159)], .agg [.lit (.int .u8 144), .lit (.int .u8 191)], .agg [.lit (.int .u8 128), .lit (.int .u8 143)], .agg [.lit (.int .u8 0), .lit (.int .u8 0)], .agg [.lit (.int .u8 0), .lit (.int .u8 0)], .agg [.lit (.int .u8 0), .lit (.int .u8 0)], .agg [.lit (.int .u8 0), .lit (.int .u8 0)], .agg [.lit (.int .u8 0), .lit (.int .u8 0)], .agg [.lit (.int .u8 0), .lit (.int .u8 0)], .agg [.lit (.int .u8 0), .lit (.int .u8 0)], .agg [.lit (.int .u8 0), .lit (.int .u8 0)], .agg [.lit (.int .u8 0), .lit (.int .u8 0)], .agg [.lit (.int .u8 0), .lit (.int .u8 0)], .agg [.lit (.int .u8 0), .lit (.int .u8 0)]]
def laid_undertow_decode_sortOpcodes {H : Type} : DataW H := .agg [.lit (.int .u32 0), .lit (.int .u32 0), .lit (.int .u32 0), .lit (.int .u32 99), .lit (.int .u32 3), .lit (.int .u32 35), .lit (.int .u32 19), .lit (.int .u32 51), .lit (.int .u32 15), .lit (.int .u32 115), .lit (.int .u32 47), .lit (.int .u32 47), .lit (.int .u32 47)]
def laid_undertow_show_shapes {H : Type} : DataW H := .agg [.lit (.string []), .lit (.string [32, 100, 44, 32, 110]), .lit (.string [32, 100, 44, 32, 97, 44, 32, 110]), .lit (.string [32, 97, 44, 32, 98, 44, 32, 110]), .lit (.string [32, 100, 44, 32, 110, 40, 97, 41]), .lit (.string [32, 98, 44, 32, 110, 40, 97, 41]), .lit (.string [32, 100, 44, 32, 97, 44, 32, 110]), .lit (.string [32, 100, 44, 32, 97, 44, 32, 98]), .lit (.string [32, 112, 44, 32, 115]), .lit (.string []), .lit (.string [32, 100, 44, 32, 40, 97, 41]), .lit (.string [32, 100, 44, 32, 98, 44, 32, 40, 97, 41]), .lit (.string [32, 100, 44, 32, 98, 44, 32, 40, 97, 41])]
/-- One of Go's own tables, pinned by name: the form's constant. -/
def laid_unicode_utf8_first : DataW Unit := Go.Pinned.utf8First

/-- 'undertowlaw11.SeqAlone': WHATEVER THE INPUT: true; the input reads as it did. -/
def seqAloneSpec : ChangeSpec := { name := "seqAlone", fn := fun _ => fun
  | [d1, d2, d3] => { results := [.lit (.bool true)], args := [d1, d2, d3] }
  | _ => none }
def seqAloneRow : OpenClaim := { program := "ytmamblgpekafbaagreatdoor", sum := "8a2ac9687b899d065eea298766b3f50671ee8464692754e99e04398b13673778", func := "undertow/undertowlaw11.SeqAlone", spec := "seqAlone", inPlace := ["internal/bytealg.CountString", "internal/bytealg.IndexByteString", "internal/bytealg.IndexString"], unfollowed := true, recurses := true, named := ["unicode/utf8.first", "unicode/utf8.acceptRanges", "internal/bytealg.MaxLen", "undertow/ops.lasts", "undertow/field.layouts", "undertow/ops.names", "undertow/show.shapes", "undertow/decode.sortOpcodes", "undertow/alu.pairs"], apart := false, laid := [("undertow/ops.lasts", laid_undertow_ops_lasts), ("undertow/ops.names", laid_undertow_ops_names), ("undertow/alu.pairs", laid_undertow_alu_pairs), ("undertow/field.layouts", laid_undertow_field_layouts), ("unicode/utf8.acceptRanges", laid_unicode_utf8_acceptRanges), ("undertow/decode.sortOpcodes", laid_undertow_decode_sortOpcodes), ("undertow/show.shapes", laid_undertow_show_shapes), ("unicode/utf8.first", laid_unicode_utf8_first)] }
def SeqAloneSaid : Prop := seqAloneRow.holds Tryz.pinned (OpenSpec.ofChange seqAloneSpec)

/-- ITS FALSE NEIGHBOUR: 'it returns false'. Refute it at one input. -/
def seqAloneWrong : ChangeSpec := { name := "seqAlone", fn := fun _ => fun
  | [d1, d2, d3] => { results := [.lit (.bool false)], args := [d1, d2, d3] }
  | _ => none }
def SeqAloneWrongFalsely : Prop := seqAloneRow.holds Tryz.pinned (OpenSpec.ofChange seqAloneWrong)

/- THE SECOND FORM. 'bulk': how many values and letters a reading holds, each counted each time it is reached (what is shared counts as often as it is met; a slice's spare places count too). A statement '..UptoSaid' is the law's where the arguments, and the package variables that the reading takes, are together of bulk at most 1048576: NARROWER than '..Said'. Prove '..Said' where nothing that the law and all that it calls make is longer than what came in: it says more and counts as full. Else prove '..UptoSaid'. A law counts once. -/
mutual
def uptoBulk {H : Type} : DataW H → Nat
  | .lit (.string bytes) => bytes.length + 1
  | .lit _ => 1
  | .nil => 1
  | .ptr d => uptoBulk d + 1
  | .slice elems spare => uptoBulkAll elems + uptoBulkAll spare + 1
  | .agg parts => uptoBulkAll parts + 1
  | .iface _ d => uptoBulk d + 1
  | .map entries => uptoBulkEntries entries + 1
  | .held _ => 1
def uptoBulkAll {H : Type} : List (DataW H) → Nat
  | [] => 0
  | d :: r => uptoBulk d + uptoBulkAll r
def uptoBulkEntries {H : Type} : List (Lit × DataW H) → Nat
  | [] => 0
  | x :: r => uptoBulkEntry x + uptoBulkEntries r
def uptoBulkEntry {H : Type} : Lit × DataW H → Nat
  | (.string bytes, d) => bytes.length + uptoBulk d + 1
  | (_, d) => uptoBulk d + 1
 end
def uptoSmall : (H : Type) → List (DataW H) → Bool := fun _ ds => decide (uptoBulkAll ds ≤ 1048576)
def OpenSpec.upto (s : _root_.Go.ChangeSpec) : _root_.Go.OpenSpec := { _root_.Go.OpenSpec.ofChange s with cond := some uptoSmall }

/-- 'undertowlaw11.SeqAlone', WHERE WHAT IT READS IS OF BULK AT MOST 1048576: true; the input reads as it did. -/
def seqAloneUptoRow : OpenClaim := { program := "ytmamblgpekafbaagreatdoor", sum := "8a2ac9687b899d065eea298766b3f50671ee8464692754e99e04398b13673778", func := "undertow/undertowlaw11.SeqAlone", spec := "seqAlone", inPlace := ["internal/bytealg.CountString", "internal/bytealg.IndexByteString", "internal/bytealg.IndexString"], unfollowed := true, recurses := true, named := ["unicode/utf8.first", "unicode/utf8.acceptRanges", "internal/bytealg.MaxLen", "undertow/ops.lasts", "undertow/field.layouts", "undertow/ops.names", "undertow/show.shapes", "undertow/decode.sortOpcodes", "undertow/alu.pairs"], apart := false, laid := [("undertow/ops.lasts", laid_undertow_ops_lasts), ("undertow/ops.names", laid_undertow_ops_names), ("undertow/alu.pairs", laid_undertow_alu_pairs), ("undertow/field.layouts", laid_undertow_field_layouts), ("unicode/utf8.acceptRanges", laid_unicode_utf8_acceptRanges), ("undertow/decode.sortOpcodes", laid_undertow_decode_sortOpcodes), ("undertow/show.shapes", laid_undertow_show_shapes), ("unicode/utf8.first", laid_unicode_utf8_first)], narrowed := true }
def SeqAloneUptoSaid : Prop := seqAloneUptoRow.holds Tryz.pinned (OpenSpec.upto seqAloneSpec)

end Rows
end Go.Proofs.YtmamblgpekafbaaGreatDoor
