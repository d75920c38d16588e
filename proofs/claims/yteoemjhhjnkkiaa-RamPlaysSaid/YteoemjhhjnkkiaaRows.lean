/-
  No cell of these rows narrows 'for every input' (looked for: loops, veiled, ifaces, maps, wideKeys, modest, calm, conditions, laid).
  DERIVED. THE GIVEN ROWS OF THIS SEAT. 4 by the template 'for every input the law returns true; each argument reads behind the call as it read before'; 0 by the template 'total and deterministic' (their statements: YteoemjhhjnkkiaaTotals.lean).
  GIVEN WITH THE SEED: the statements are not yours to turn. If you find one false, say at which input.
  Laid BY PROGRAM, IN A SANDBOX (cutbox-rows.mjs): the forced cells as the released guide's own fill.sh prints them over the translation 8a7694ff68c1b64a… (all of the seat's roots in one cut). By AI agents, Wed Nov 11 2026. No macro, syntax, notation, axiom, sorry.
-/
import Derived.Test.YteoemjhhjnkkiaaChecked
import GoSem.Claim
import GoSem.ClaimJoined
import GoSem.ClaimMapViews
import Derived.JoinedTies
import Derived.KernelRfl
namespace Go.Proofs.Yteoemjhhjnkkiaa
/- THE CELL 'sum', in the pinned program and in every row, IS THE sha256 OF THE DUMP (.gsa) THAT YteoemjhhjnkkiaaProg.lean LOADS. Nothing in Lean hashes anything: it is a label: what it is worth is what the hold of that sum in a sandbox is worth. -/
noncomputable def Try.pinned : Pinned := { name := "yteoemjhhjnkkiaa", sum := "8a7694ff68c1b64a7cdbd9ad5d7a2a132478a20bff7d99e03ababb9279d99980", checked := Try.checked }
namespace Rows
def none {H : Type} : Left H := { results := [], args := [] }

/-- 'undertowlaw12.RamPlays': WHATEVER THE INPUT: true; the input reads as it did. -/
def ramPlaysSpec : ChangeSpec := { name := "ramPlays", fn := fun _ => fun
  | [d1, d2] => { results := [.lit (.bool true)], args := [d1, d2] }
  | _ => none }
def ramPlaysRow : OpenClaim := { program := "yteoemjhhjnkkiaa", sum := "8a7694ff68c1b64a7cdbd9ad5d7a2a132478a20bff7d99e03ababb9279d99980", func := "undertow/undertowlaw12.RamPlays", spec := "ramPlays", apart := false }
def RamPlaysSaid : Prop := ramPlaysRow.holds Try.pinned (OpenSpec.ofChange ramPlaysSpec)

/-- ITS FALSE NEIGHBOUR: 'it returns false'. Refute it at one input. -/
def ramPlaysWrong : ChangeSpec := { name := "ramPlays", fn := fun _ => fun
  | [d1, d2] => { results := [.lit (.bool false)], args := [d1, d2] }
  | _ => none }
def RamPlaysWrongFalsely : Prop := ramPlaysRow.holds Try.pinned (OpenSpec.ofChange ramPlaysWrong)

/-- 'undertowlaw12.RamNone': WHATEVER THE INPUT: true; the input reads as it did. -/
def ramNoneSpec : ChangeSpec := { name := "ramNone", fn := fun _ => fun
  | [d] => { results := [.lit (.bool true)], args := [d] }
  | _ => none }
def ramNoneRow : OpenClaim := { program := "yteoemjhhjnkkiaa", sum := "8a7694ff68c1b64a7cdbd9ad5d7a2a132478a20bff7d99e03ababb9279d99980", func := "undertow/undertowlaw12.RamNone", spec := "ramNone", apart := false }
def RamNoneSaid : Prop := ramNoneRow.holds Try.pinned (OpenSpec.ofChange ramNoneSpec)

/-- ITS FALSE NEIGHBOUR: 'it returns false'. Refute it at one input. -/
def ramNoneWrong : ChangeSpec := { name := "ramNone", fn := fun _ => fun
  | [d] => { results := [.lit (.bool false)], args := [d] }
  | _ => none }
def RamNoneWrongFalsely : Prop := ramNoneRow.holds Try.pinned (OpenSpec.ofChange ramNoneWrong)

/-- 'undertowlaw12.RamLast': WHATEVER THE INPUT: true; the input reads as it did. -/
def ramLastSpec : ChangeSpec := { name := "ramLast", fn := fun _ => fun
  | [d1, d2] => { results := [.lit (.bool true)], args := [d1, d2] }
  | _ => none }
def ramLastRow : OpenClaim := { program := "yteoemjhhjnkkiaa", sum := "8a7694ff68c1b64a7cdbd9ad5d7a2a132478a20bff7d99e03ababb9279d99980", func := "undertow/undertowlaw12.RamLast", spec := "ramLast", apart := false }
def RamLastSaid : Prop := ramLastRow.holds Try.pinned (OpenSpec.ofChange ramLastSpec)

/-- ITS FALSE NEIGHBOUR: 'it returns false'. Refute it at one input. -/
def ramLastWrong : ChangeSpec := { name := "ramLast", fn := fun _ => fun
  | [d1, d2] => { results := [.lit (.bool false)], args := [d1, d2] }
  | _ => none }
def RamLastWrongFalsely : Prop := ramLastRow.holds Try.pinned (OpenSpec.ofChange ramLastWrong)

/-- 'undertowlaw12.RamHeld': WHATEVER THE INPUT: true; the input reads as it did. -/
def ramHeldSpec : ChangeSpec := { name := "ramHeld", fn := fun _ => fun
  | [d1, d2, d3] => { results := [.lit (.bool true)], args := [d1, d2, d3] }
  | _ => none }
def ramHeldRow : OpenClaim := { program := "yteoemjhhjnkkiaa", sum := "8a7694ff68c1b64a7cdbd9ad5d7a2a132478a20bff7d99e03ababb9279d99980", func := "undertow/undertowlaw12.RamHeld", spec := "ramHeld", apart := false }
def RamHeldSaid : Prop := ramHeldRow.holds Try.pinned (OpenSpec.ofChange ramHeldSpec)

/-- ITS FALSE NEIGHBOUR: 'it returns false'. Refute it at one input. -/
def ramHeldWrong : ChangeSpec := { name := "ramHeld", fn := fun _ => fun
  | [d1, d2, d3] => { results := [.lit (.bool false)], args := [d1, d2, d3] }
  | _ => none }
def RamHeldWrongFalsely : Prop := ramHeldRow.holds Try.pinned (OpenSpec.ofChange ramHeldWrong)

/- THE SECOND FORM. 'bulk': how many values and letters a reading holds, each counted each time it is reached (what is shared counts as often as it is met; a slice's spare places count too). A statement '..UptoSaid' is the law's where the arguments, and the package variables that the reading takes, are together of bulk at most 1048576: NARROWER than '..Said'. Prove '..Said' where nothing that the law and all that it calls make is longer than what came in: it says more and counts as full. Else prove '..UptoSaid'. A law counts once. -/
mutual
def uptoBulk {H : Type} : DataW H → Nat
  | .lit (.string bytes) => bytes.length + 1
  | .lit _ => 1
  | .nil => 1
  | .ptr d => uptoBulk d + 1
  | .slice elems spare => uptoBulkAll elems + uptoBulkAll spare + 1
  | .agg parts => uptoBulkAll parts + 1
  | .iface _ d => uptoBulk d + 1
  | .map entries => uptoBulkEntries entries + 1
  | .held _ => 1
def uptoBulkAll {H : Type} : List (DataW H) → Nat
  | [] => 0
  | d :: r => uptoBulk d + uptoBulkAll r
def uptoBulkEntries {H : Type} : List (Lit × DataW H) → Nat
  | [] => 0
  | x :: r => uptoBulkEntry x + uptoBulkEntries r
def uptoBulkEntry {H : Type} : Lit × DataW H → Nat
  | (.string bytes, d) => bytes.length + uptoBulk d + 1
  | (_, d) => uptoBulk d + 1
 end
def uptoSmall : (H : Type) → List (DataW H) → Bool := fun _ ds => decide (uptoBulkAll ds ≤ 1048576)
def OpenSpec.upto (s : _root_.Go.ChangeSpec) : _root_.Go.OpenSpec := { _root_.Go.OpenSpec.ofChange s with cond := some uptoSmall }

/-- 'undertowlaw12.RamPlays', WHERE WHAT IT READS IS OF BULK AT MOST 1048576: true; the input reads as it did. -/
def ramPlaysUptoRow : OpenClaim := { program := "yteoemjhhjnkkiaa", sum := "8a7694ff68c1b64a7cdbd9ad5d7a2a132478a20bff7d99e03ababb9279d99980", func := "undertow/undertowlaw12.RamPlays", spec := "ramPlays", apart := false, narrowed := true }
def RamPlaysUptoSaid : Prop := ramPlaysUptoRow.holds Try.pinned (OpenSpec.upto ramPlaysSpec)

/-- 'undertowlaw12.RamNone', WHERE WHAT IT READS IS OF BULK AT MOST 1048576: true; the input reads as it did. -/
def ramNoneUptoRow : OpenClaim := { program := "yteoemjhhjnkkiaa", sum := "8a7694ff68c1b64a7cdbd9ad5d7a2a132478a20bff7d99e03ababb9279d99980", func := "undertow/undertowlaw12.RamNone", spec := "ramNone", apart := false, narrowed := true }
def RamNoneUptoSaid : Prop := ramNoneUptoRow.holds Try.pinned (OpenSpec.upto ramNoneSpec)

/-- 'undertowlaw12.RamLast', WHERE WHAT IT READS IS OF BULK AT MOST 1048576: true; the input reads as it did. -/
def ramLastUptoRow : OpenClaim := { program := "yteoemjhhjnkkiaa", sum := "8a7694ff68c1b64a7cdbd9ad5d7a2a132478a20bff7d99e03ababb9279d99980", func := "undertow/undertowlaw12.RamLast", spec := "ramLast", apart := false, narrowed := true }
def RamLastUptoSaid : Prop := ramLastUptoRow.holds Try.pinned (OpenSpec.upto ramLastSpec)

/-- 'undertowlaw12.RamHeld', WHERE WHAT IT READS IS OF BULK AT MOST 1048576: true; the input reads as it did. -/
def ramHeldUptoRow : OpenClaim := { program := "yteoemjhhjnkkiaa", sum := "8a7694ff68c1b64a7cdbd9ad5d7a2a132478a20bff7d99e03ababb9279d99980", func := "undertow/undertowlaw12.RamHeld", spec := "ramHeld", apart := false, narrowed := true }
def RamHeldUptoSaid : Prop := ramHeldUptoRow.holds Try.pinned (OpenSpec.upto ramHeldSpec)

end Rows
end Go.Proofs.Yteoemjhhjnkkiaa
