/-
  NARROWER THAN 'FOR EVERY INPUT', by the rows' own cells (each row's printed sentence says how): OpsSorts: laid · OpsRegisters: laid · OpsNames: laid.
  DERIVED. THE GIVEN ROWS OF THIS SEAT. 3 by the template 'for every input the law returns true; each argument reads behind the call as it read before'; 0 by the template 'total and deterministic' (their statements: YtebpoladoimjgaaDoorTotals.lean).
  GIVEN WITH THE SEED: the statements are not yours to turn. If you find one false, say at which input.
  Laid BY PROGRAM, IN A SANDBOX (cutbox-rows.mjs): the forced cells as the released guide's own fill.sh prints them over the translation 395de41affc479bf… (all of the seat's roots in one cut). By AI agents, Wed Nov 11 2026. No macro, syntax, notation, axiom, sorry.
-/
import Derived.Test.YtebpoladoimjgaaDoorChecked
import GoSem.Claim
import GoSem.ClaimJoined
import GoSem.ClaimMapViews
import Derived.JoinedTies
import Derived.KernelRfl
namespace Go.Proofs.YtebpoladoimjgaaDoor
/- THE CELL 'sum', in the pinned program and in every row, IS THE sha256 OF THE DUMP (.gsa) THAT YtebpoladoimjgaaDoorProg.lean LOADS. Nothing in Lean hashes anything: it is a label: what it is worth is what the hold of that sum in a sandbox is worth. -/
noncomputable def Tryd.pinned : Pinned := { name := "ytebpoladoimjgaadoor", sum := "395de41affc479bf35bb31184109192729ec27ddee5a24ab90f555e0b40f5b8d", checked := Tryd.checked }
namespace Rows
def none {H : Type} : Left H := { results := [], args := [] }

/- WHAT THE LISTED PACKAGE-LEVEL VARIABLES READ AS WHEN THE CALL BEGINS. Each datum BY PROGRAM (the guide's laid-datum.mjs) off the statement by which the dump's own 'gosem.cut.vars' lays the variable. In a bare row this is a premise. The card (YtebpoladoimjgaaDoorCards.lean) ties it to the program's text. -/
def laid_undertow_ops_lasts {H : Type} : DataW H := .agg [.lit (.int .i64 0), .lit (.int .i64 2), .lit (.int .i64 4), .lit (.int .i64 10), .lit (.int .i64 17), .lit (.int .i64 21), .lit (.int .i64 34), .lit (.int .i64 49), .lit (.int .i64 51), .lit (.int .i64 53), .lit (.int .i64 55), .lit (.int .i64 57), .lit (.int .i64 75)]
def laid_undertow_ops_names {H : Type} : DataW H := .agg [.lit (.string []), .lit (.string [108, 117, 105]), .lit (.string [97, 117, 105, 112, 99]), .lit (.string [106, 97, 108]), .lit (.string [106, 97, 108, 114]), .lit (.string [98, 101, 113]), .lit (.string [98, 110, 101]), .lit (.string [98, 108, 116]), .lit (.string [98, 103, 101]), .lit (.string [98, 108, 116, 117]), .lit (.string [98, 103, 101, 117]), .lit (.string [108, 98]), .lit (.string [108, 104]), .lit (.string [108, 119]), .lit (.string [108, 100]), .lit (.string [108, 98, 117]), .lit (.string [108, 104, 117]), .lit (.string [108, 119, 117]), .lit (.string [115, 98]), .lit (.string [115, 104]), .lit (.string [115, 119]), .lit (.string [115, 100]), .lit (.string [97, 100, 100, 105]), .lit (.string [115, 108, 116, 105]), .lit (.string [115, 108, 116, 105, 117]), .lit (.string [120, 111, 114, 105]), .lit (.string [111, 114, 105]), .lit (.string [97, 110, 100, 105]), .lit (.string [115, 108, 108, 105]), .lit (.string [115, 114, 108, 105]), .lit (.string [115, 114, 97, 105]), .lit (.string [97, 100, 100, 105, 119]), .lit (.string [115, 108, 108, 105, 119]), .lit (.string [115, 114, 108, 105, 119]), .lit (.string [115, 114, 97, 105, 119]), .lit (.string [97, 100, 100]), .lit (.string [115, 117, 98]), .lit (.string [115, 108, 108]), .lit (.string [115, 108, 116]), .lit (.string [115, 108, 116, 117]), .lit (.string [120, 111, 114]), .lit (.string [115, 114, 108]), .lit (.string [115, 114, 97]), .lit (.string [111, 114]), .lit (.string [97, 110, 100]), .lit (.string [97, 100, 100, 119]), .lit (.string [115, 117, 98, 119]), .lit (.string [115, 108, 108, 119]), .lit (.string [115, 114, 108, 119]), .lit (.string [115, 114, 97, 119]), .lit (.string [102, 101, 110, 99, 101]), .lit (.string [102, 101, 110, 99, 101, 46, 116, 115, 111]), .lit (.string [101, 99, 97, 108, 108]), .lit (.string [101, 98, 114, 101, 97, 107]), .lit (.string [108, 114, 46, 119]), .lit (.string [108, 114, 46, 100]), .lit (.string [115, 99, 46, 119]), .lit (.string [115, 99, 46, 100]), .lit (.string [97, 109, 111, 115, 119, 97, 112, 46, 119]), .lit (.string [97, 109, 111, 97, 100, 100, 46, 119]), .lit (.string [97, 109, 111, 120, 111, 114, 46, 119]), .lit (.string [97, 109, 111, 97, 110, 100, 46, 119]), .lit (.string [97, 109, 111, 111, 114, 46, 119]), .lit (.string [97, 109, 111, 109, 105, 110, 46, 119]), .lit (.string [97, 109, 111, 109, 97, 120, 46, 119]), .lit (.string [97, 109, 111, 109, 105, 110, 117, 46, 119]), .lit (.string [97, 109, 111, 109, 97, 120, 117, 46, 119]), .lit (.string [97, 109, 111, 115, 119, 97, 112, 46, 100]), .lit (.string [97, 109, 111, 97, 100, 100, 46, 100]), .lit (.string [97, 109, 111, 120, 111, 114, 46, 100]), .lit (.string [97, 109, 111, 97, 110, 100, 46, 100]), .lit (.string [97, 109, 111, 111, 114, 46, 100]), .lit (.string [97, 109, 111, 109, 105, 110, 46, 100]), .lit (.string [97, 109, 111, 109, 97, 120, 46, 100]), .lit (.string [97, 109, 111, 109, 105, 110, 117, 46, 100]), .lit (.string [97, 109, 111, 109, 97, 120, 117, 46, 100])]

/-- 'undertowlaw05.OpsSorts': WHATEVER THE INPUT: true; the input reads as it did. -/
def opsSortsSpec : ChangeSpec := { name := "opsSorts", fn := fun _ => fun
  | [d] => { results := [.lit (.bool true)], args := [d] }
  | _ => none }
def opsSortsRow : OpenClaim := { program := "ytebpoladoimjgaadoor", sum := "395de41affc479bf35bb31184109192729ec27ddee5a24ab90f555e0b40f5b8d", func := "undertow/undertowlaw05.OpsSorts", spec := "opsSorts", named := ["undertow/ops.lasts", "undertow/ops.names"], apart := false, laid := [("undertow/ops.lasts", laid_undertow_ops_lasts), ("undertow/ops.names", laid_undertow_ops_names)] }
def OpsSortsSaid : Prop := opsSortsRow.holds Tryd.pinned (OpenSpec.ofChange opsSortsSpec)

/-- ITS FALSE NEIGHBOUR: 'it returns false'. Refute it at one input. -/
def opsSortsWrong : ChangeSpec := { name := "opsSorts", fn := fun _ => fun
  | [d] => { results := [.lit (.bool false)], args := [d] }
  | _ => none }
def OpsSortsWrongFalsely : Prop := opsSortsRow.holds Tryd.pinned (OpenSpec.ofChange opsSortsWrong)

/-- 'undertowlaw05.OpsRegisters': WHATEVER THE INPUT: true; the input reads as it did. -/
def opsRegistersSpec : ChangeSpec := { name := "opsRegisters", fn := fun _ => fun
  | [d] => { results := [.lit (.bool true)], args := [d] }
  | _ => none }
def opsRegistersRow : OpenClaim := { program := "ytebpoladoimjgaadoor", sum := "395de41affc479bf35bb31184109192729ec27ddee5a24ab90f555e0b40f5b8d", func := "undertow/undertowlaw05.OpsRegisters", spec := "opsRegisters", named := ["undertow/ops.lasts", "undertow/ops.names"], apart := false, laid := [("undertow/ops.lasts", laid_undertow_ops_lasts), ("undertow/ops.names", laid_undertow_ops_names)] }
def OpsRegistersSaid : Prop := opsRegistersRow.holds Tryd.pinned (OpenSpec.ofChange opsRegistersSpec)

/-- ITS FALSE NEIGHBOUR: 'it returns false'. Refute it at one input. -/
def opsRegistersWrong : ChangeSpec := { name := "opsRegisters", fn := fun _ => fun
  | [d] => { results := [.lit (.bool false)], args := [d] }
  | _ => none }
def OpsRegistersWrongFalsely : Prop := opsRegistersRow.holds Tryd.pinned (OpenSpec.ofChange opsRegistersWrong)

/-- 'undertowlaw05.OpsNames': WHATEVER THE INPUT: true; the input reads as it did. -/
def opsNamesSpec : ChangeSpec := { name := "opsNames", fn := fun _ => fun
  | [d1, d2] => { results := [.lit (.bool true)], args := [d1, d2] }
  | _ => none }
def opsNamesRow : OpenClaim := { program := "ytebpoladoimjgaadoor", sum := "395de41affc479bf35bb31184109192729ec27ddee5a24ab90f555e0b40f5b8d", func := "undertow/undertowlaw05.OpsNames", spec := "opsNames", named := ["undertow/ops.lasts", "undertow/ops.names"], apart := false, laid := [("undertow/ops.lasts", laid_undertow_ops_lasts), ("undertow/ops.names", laid_undertow_ops_names)] }
def OpsNamesSaid : Prop := opsNamesRow.holds Tryd.pinned (OpenSpec.ofChange opsNamesSpec)

/-- ITS FALSE NEIGHBOUR: 'it returns false'. Refute it at one input. -/
def opsNamesWrong : ChangeSpec := { name := "opsNames", fn := fun _ => fun
  | [d1, d2] => { results := [.lit (.bool false)], args := [d1, d2] }
  | _ => none }
def OpsNamesWrongFalsely : Prop := opsNamesRow.holds Tryd.pinned (OpenSpec.ofChange opsNamesWrong)

/- THE SECOND FORM. 'bulk': how many values and letters a reading holds, each counted each time it is reached (what is shared counts as often as it is met; a slice's spare places count too). A statement '..UptoSaid' is the law's where the arguments, and the package variables that the reading takes, are together of bulk at most 1048576: NARROWER than '..Said'. Prove '..Said' where nothing that the law and all that it calls make is longer than what came in: it says more and counts as full. Else prove '..UptoSaid'. A law counts once. -/
mutual
def uptoBulk {H : Type} : DataW H → Nat
  | .lit (.string bytes) => bytes.length + 1
  | .lit _ => 1
  | .nil => 1
  | .ptr d => uptoBulk d + 1
  | .slice elems spare => uptoBulkAll elems + uptoBulkAll spare + 1
  | .agg parts => uptoBulkAll parts + 1
  | .iface _ d => uptoBulk d + 1
  | .map entries => uptoBulkEntries entries + 1
  | .held _ => 1
def uptoBulkAll {H : Type} : List (DataW H) → Nat
  | [] => 0
  | d :: r => uptoBulk d + uptoBulkAll r
def uptoBulkEntries {H : Type} : List (Lit × DataW H) → Nat
  | [] => 0
  | x :: r => uptoBulkEntry x + uptoBulkEntries r
def uptoBulkEntry {H : Type} : Lit × DataW H → Nat
  | (.string bytes, d) => bytes.length + uptoBulk d + 1
  | (_, d) => uptoBulk d + 1
 end
def uptoSmall : (H : Type) → List (DataW H) → Bool := fun _ ds => decide (uptoBulkAll ds ≤ 1048576)
def OpenSpec.upto (s : _root_.Go.ChangeSpec) : _root_.Go.OpenSpec := { _root_.Go.OpenSpec.ofChange s with cond := some uptoSmall }

/-- 'undertowlaw05.OpsSorts', WHERE WHAT IT READS IS OF BULK AT MOST 1048576: true; the input reads as it did. -/
def opsSortsUptoRow : OpenClaim := { program := "ytebpoladoimjgaadoor", sum := "395de41affc479bf35bb31184109192729ec27ddee5a24ab90f555e0b40f5b8d", func := "undertow/undertowlaw05.OpsSorts", spec := "opsSorts", named := ["undertow/ops.lasts", "undertow/ops.names"], apart := false, laid := [("undertow/ops.lasts", laid_undertow_ops_lasts), ("undertow/ops.names", laid_undertow_ops_names)], narrowed := true }
def OpsSortsUptoSaid : Prop := opsSortsUptoRow.holds Tryd.pinned (OpenSpec.upto opsSortsSpec)

/-- 'undertowlaw05.OpsRegisters', WHERE WHAT IT READS IS OF BULK AT MOST 1048576: true; the input reads as it did. -/
def opsRegistersUptoRow : OpenClaim := { program := "ytebpoladoimjgaadoor", sum := "395de41affc479bf35bb31184109192729ec27ddee5a24ab90f555e0b40f5b8d", func := "undertow/undertowlaw05.OpsRegisters", spec := "opsRegisters", named := ["undertow/ops.lasts", "undertow/ops.names"], apart := false, laid := [("undertow/ops.lasts", laid_undertow_ops_lasts), ("undertow/ops.names", laid_undertow_ops_names)], narrowed := true }
def OpsRegistersUptoSaid : Prop := opsRegistersUptoRow.holds Tryd.pinned (OpenSpec.upto opsRegistersSpec)

/-- 'undertowlaw05.OpsNames', WHERE WHAT IT READS IS OF BULK AT MOST 1048576: true; the input reads as it did. -/
def opsNamesUptoRow : OpenClaim := { program := "ytebpoladoimjgaadoor", sum := "395de41affc479bf35bb31184109192729ec27ddee5a24ab90f555e0b40f5b8d", func := "undertow/undertowlaw05.OpsNames", spec := "opsNames", named := ["undertow/ops.lasts", "undertow/ops.names"], apart := false, laid := [("undertow/ops.lasts", laid_undertow_ops_lasts), ("undertow/ops.names", laid_undertow_ops_names)], narrowed := true }
def OpsNamesUptoSaid : Prop := opsNamesUptoRow.holds Tryd.pinned (OpenSpec.upto opsNamesSpec)

end Rows
end Go.Proofs.YtebpoladoimjgaaDoor
