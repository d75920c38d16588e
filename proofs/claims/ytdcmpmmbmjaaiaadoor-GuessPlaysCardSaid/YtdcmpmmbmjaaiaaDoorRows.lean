/-
  NARROWER THAN 'FOR EVERY INPUT', by the rows' own cells (each row's printed sentence says how): GuessPlays: laid · GuessTwice: laid.
  DERIVED. THE GIVEN ROWS OF THIS SEAT. 2 by the template 'for every input the law returns true; each argument reads behind the call as it read before'; 0 by the template 'total and deterministic' (their statements: YtdcmpmmbmjaaiaaDoorTotals.lean).
  GIVEN WITH THE SEED: the statements are not yours to turn. If you find one false, say at which input.
  Laid BY PROGRAM, IN A SANDBOX (cutbox-rows.mjs): the forced cells as the released guide's own fill.sh prints them over the translation 56689f57d4827878… (all of the seat's roots in one cut). By AI agents, Wed Nov 11 2026. No macro, syntax, notation, axiom, sorry.
-/
import Derived.Test.YtdcmpmmbmjaaiaaDoorChecked
import GoSem.Claim
import GoSem.ClaimJoined
import GoSem.ClaimMapViews
import Derived.JoinedTies
import Derived.KernelRfl
namespace Go.Proofs.YtdcmpmmbmjaaiaaDoor
/- THE CELL 'sum', in the pinned program and in every row, IS THE sha256 OF THE DUMP (.gsa) THAT YtdcmpmmbmjaaiaaDoorProg.lean LOADS. Nothing in Lean hashes anything: it is a label: what it is worth is what the hold of that sum in a sandbox is worth. -/
noncomputable def Tryd.pinned : Pinned := { name := "ytdcmpmmbmjaaiaadoor", sum := "56689f57d48278789dce0d1b8962fc2e37a7e7e068e368ed8cbacada15b13ea0", checked := Tryd.checked }
namespace Rows
def none {H : Type} : Left H := { results := [], args := [] }

/- WHAT THE LISTED PACKAGE-LEVEL VARIABLES READ AS WHEN THE CALL BEGINS. Each datum BY PROGRAM (the guide's laid-datum.mjs) off the statement by which the dump's own 'gosem.cut.vars' lays the variable. In a bare row this is a premise. The card (YtdcmpmmbmjaaiaaDoorCards.lean) ties it to the program's text. -/
def laid_undertow_ops_lasts {H : Type} : DataW H := .agg [.lit (.int .i64 0), .lit (.int .i64 2), .lit (.int .i64 4), .lit (.int .i64 10), .lit (.int .i64 17), .lit (.int .i64 21), .lit (.int .i64 34), .lit (.int .i64 49), .lit (.int .i64 51), .lit (.int .i64 53), .lit (.int .i64 55), .lit (.int .i64 57), .lit (.int .i64 75)]

/-- 'undertowlaw14.GuessPlays': WHATEVER THE INPUT: true; the input reads as it did. -/
def guessPlaysSpec : ChangeSpec := { name := "guessPlays", fn := fun _ => fun
  | [d1, d2, d3] => { results := [.lit (.bool true)], args := [d1, d2, d3] }
  | _ => none }
def guessPlaysRow : OpenClaim := { program := "ytdcmpmmbmjaaiaadoor", sum := "56689f57d48278789dce0d1b8962fc2e37a7e7e068e368ed8cbacada15b13ea0", func := "undertow/undertowlaw14.GuessPlays", spec := "guessPlays", named := ["undertow/ops.lasts"], apart := false, laid := [("undertow/ops.lasts", laid_undertow_ops_lasts)] }
def GuessPlaysSaid : Prop := guessPlaysRow.holds Tryd.pinned (OpenSpec.ofChange guessPlaysSpec)

/-- ITS FALSE NEIGHBOUR: 'it returns false'. Refute it at one input. -/
def guessPlaysWrong : ChangeSpec := { name := "guessPlays", fn := fun _ => fun
  | [d1, d2, d3] => { results := [.lit (.bool false)], args := [d1, d2, d3] }
  | _ => none }
def GuessPlaysWrongFalsely : Prop := guessPlaysRow.holds Tryd.pinned (OpenSpec.ofChange guessPlaysWrong)

/-- 'undertowlaw14.GuessTwice': WHATEVER THE INPUT: true; the input reads as it did. -/
def guessTwiceSpec : ChangeSpec := { name := "guessTwice", fn := fun _ => fun
  | [d1, d2, d3, d4, d5] => { results := [.lit (.bool true)], args := [d1, d2, d3, d4, d5] }
  | _ => none }
def guessTwiceRow : OpenClaim := { program := "ytdcmpmmbmjaaiaadoor", sum := "56689f57d48278789dce0d1b8962fc2e37a7e7e068e368ed8cbacada15b13ea0", func := "undertow/undertowlaw14.GuessTwice", spec := "guessTwice", named := ["undertow/ops.lasts"], apart := false, laid := [("undertow/ops.lasts", laid_undertow_ops_lasts)] }
def GuessTwiceSaid : Prop := guessTwiceRow.holds Tryd.pinned (OpenSpec.ofChange guessTwiceSpec)

/-- ITS FALSE NEIGHBOUR: 'it returns false'. Refute it at one input. -/
def guessTwiceWrong : ChangeSpec := { name := "guessTwice", fn := fun _ => fun
  | [d1, d2, d3, d4, d5] => { results := [.lit (.bool false)], args := [d1, d2, d3, d4, d5] }
  | _ => none }
def GuessTwiceWrongFalsely : Prop := guessTwiceRow.holds Tryd.pinned (OpenSpec.ofChange guessTwiceWrong)

/- THE SECOND FORM. 'bulk': how many values and letters a reading holds, each counted each time it is reached (what is shared counts as often as it is met; a slice's spare places count too). A statement '..UptoSaid' is the law's where the arguments, and the package variables that the reading takes, are together of bulk at most 1048576: NARROWER than '..Said'. Prove '..Said' where nothing that the law and all that it calls make is longer than what came in: it says more and counts as full. Else prove '..UptoSaid'. A law counts once. -/
mutual
def uptoBulk {H : Type} : DataW H → Nat
  | .lit (.string bytes) => bytes.length + 1
  | .lit _ => 1
  | .nil => 1
  | .ptr d => uptoBulk d + 1
  | .slice elems spare => uptoBulkAll elems + uptoBulkAll spare + 1
  | .agg parts => uptoBulkAll parts + 1
  | .iface _ d => uptoBulk d + 1
  | .map entries => uptoBulkEntries entries + 1
  | .held _ => 1
def uptoBulkAll {H : Type} : List (DataW H) → Nat
  | [] => 0
  | d :: r => uptoBulk d + uptoBulkAll r
def uptoBulkEntries {H : Type} : List (Lit × DataW H) → Nat
  | [] => 0
  | x :: r => uptoBulkEntry x + uptoBulkEntries r
def uptoBulkEntry {H : Type} : Lit × DataW H → Nat
  | (.string bytes, d) => bytes.length + uptoBulk d + 1
  | (_, d) => uptoBulk d + 1
 end
def uptoSmall : (H : Type) → List (DataW H) → Bool := fun _ ds => decide (uptoBulkAll ds ≤ 1048576)
def OpenSpec.upto (s : _root_.Go.ChangeSpec) : _root_.Go.OpenSpec := { _root_.Go.OpenSpec.ofChange s with cond := some uptoSmall }

/-- 'undertowlaw14.GuessPlays', WHERE WHAT IT READS IS OF BULK AT MOST 1048576: true; the input reads as it did. -/
def guessPlaysUptoRow : OpenClaim := { program := "ytdcmpmmbmjaaiaadoor", sum := "56689f57d48278789dce0d1b8962fc2e37a7e7e068e368ed8cbacada15b13ea0", func := "undertow/undertowlaw14.GuessPlays", spec := "guessPlays", named := ["undertow/ops.lasts"], apart := false, laid := [("undertow/ops.lasts", laid_undertow_ops_lasts)], narrowed := true }
def GuessPlaysUptoSaid : Prop := guessPlaysUptoRow.holds Tryd.pinned (OpenSpec.upto guessPlaysSpec)

/-- 'undertowlaw14.GuessTwice', WHERE WHAT IT READS IS OF BULK AT MOST 1048576: true; the input reads as it did. -/
def guessTwiceUptoRow : OpenClaim := { program := "ytdcmpmmbmjaaiaadoor", sum := "56689f57d48278789dce0d1b8962fc2e37a7e7e068e368ed8cbacada15b13ea0", func := "undertow/undertowlaw14.GuessTwice", spec := "guessTwice", named := ["undertow/ops.lasts"], apart := false, laid := [("undertow/ops.lasts", laid_undertow_ops_lasts)], narrowed := true }
def GuessTwiceUptoSaid : Prop := guessTwiceUptoRow.holds Tryd.pinned (OpenSpec.upto guessTwiceSpec)

end Rows
end Go.Proofs.YtdcmpmmbmjaaiaaDoor
