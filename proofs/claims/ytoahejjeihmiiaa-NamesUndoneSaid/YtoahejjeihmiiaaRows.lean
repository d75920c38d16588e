/-
  No cell of these rows narrows 'for every input' (looked for: loops, veiled, ifaces, maps, wideKeys, modest, calm, conditions, laid).
  DERIVED. THE GIVEN ROWS OF THIS SEAT. 4 by the template 'for every input the law returns true; each argument reads behind the call as it read before'; 0 by the template 'total and deterministic' (their statements: YtoahejjeihmiiaaTotals.lean).
  GIVEN WITH THE SEED: the statements are not yours to turn. If you find one false, say at which input.
  Laid BY PROGRAM, IN A SANDBOX (cutbox-rows.mjs): the forced cells as the released guide's own fill.sh prints them over the translation 94aa4a4a78742187… (all of the seat's roots in one cut). By AI agents, Wed Nov 11 2026. No macro, syntax, notation, axiom, sorry.
-/
import Derived.Test.YtoahejjeihmiiaaChecked
import GoSem.Claim
import GoSem.ClaimJoined
import GoSem.ClaimMapViews
import Derived.JoinedTies
import Derived.KernelRfl
namespace Go.Proofs.Ytoahejjeihmiiaa
/- THE CELL 'sum', in the pinned program and in every row, IS THE sha256 OF THE DUMP (.gsa) THAT YtoahejjeihmiiaaProg.lean LOADS. Nothing in Lean hashes anything: it is a label: what it is worth is what the hold of that sum in a sandbox is worth. -/
noncomputable def Try.pinned : Pinned := { name := "ytoahejjeihmiiaa", sum := "94aa4a4a78742187d914c4eaefff3d4b48d72358b949ecc4182cea2404ea0db2", checked := Try.checked }
namespace Rows
def none {H : Type} : Left H := { results := [], args := [] }

/-- 'undertowlaw15.NamesPlays': WHATEVER THE INPUT: true; the input reads as it did. -/
def namesPlaysSpec : ChangeSpec := { name := "namesPlays", fn := fun _ => fun
  | [d1, d2] => { results := [.lit (.bool true)], args := [d1, d2] }
  | _ => none }
def namesPlaysRow : OpenClaim := { program := "ytoahejjeihmiiaa", sum := "94aa4a4a78742187d914c4eaefff3d4b48d72358b949ecc4182cea2404ea0db2", func := "undertow/undertowlaw15.NamesPlays", spec := "namesPlays", unfollowed := true, recurses := true, apart := false }
def NamesPlaysSaid : Prop := namesPlaysRow.holds Try.pinned (OpenSpec.ofChange namesPlaysSpec)

/-- ITS FALSE NEIGHBOUR: 'it returns false'. Refute it at one input. -/
def namesPlaysWrong : ChangeSpec := { name := "namesPlays", fn := fun _ => fun
  | [d1, d2] => { results := [.lit (.bool false)], args := [d1, d2] }
  | _ => none }
def NamesPlaysWrongFalsely : Prop := namesPlaysRow.holds Try.pinned (OpenSpec.ofChange namesPlaysWrong)

/-- 'undertowlaw15.NamesNone': WHATEVER THE INPUT: true; the input reads as it did. -/
def namesNoneSpec : ChangeSpec := { name := "namesNone", fn := fun _ => fun
  | [d] => { results := [.lit (.bool true)], args := [d] }
  | _ => none }
def namesNoneRow : OpenClaim := { program := "ytoahejjeihmiiaa", sum := "94aa4a4a78742187d914c4eaefff3d4b48d72358b949ecc4182cea2404ea0db2", func := "undertow/undertowlaw15.NamesNone", spec := "namesNone", unfollowed := true, recurses := true, apart := false }
def NamesNoneSaid : Prop := namesNoneRow.holds Try.pinned (OpenSpec.ofChange namesNoneSpec)

/-- ITS FALSE NEIGHBOUR: 'it returns false'. Refute it at one input. -/
def namesNoneWrong : ChangeSpec := { name := "namesNone", fn := fun _ => fun
  | [d] => { results := [.lit (.bool false)], args := [d] }
  | _ => none }
def NamesNoneWrongFalsely : Prop := namesNoneRow.holds Try.pinned (OpenSpec.ofChange namesNoneWrong)

/-- 'undertowlaw15.NamesUndone': WHATEVER THE INPUT: true; the input reads as it did. -/
def namesUndoneSpec : ChangeSpec := { name := "namesUndone", fn := fun _ => fun
  | [d1, d2, d3] => { results := [.lit (.bool true)], args := [d1, d2, d3] }
  | _ => none }
def namesUndoneRow : OpenClaim := { program := "ytoahejjeihmiiaa", sum := "94aa4a4a78742187d914c4eaefff3d4b48d72358b949ecc4182cea2404ea0db2", func := "undertow/undertowlaw15.NamesUndone", spec := "namesUndone", unfollowed := true, recurses := true, apart := false }
def NamesUndoneSaid : Prop := namesUndoneRow.holds Try.pinned (OpenSpec.ofChange namesUndoneSpec)

/-- ITS FALSE NEIGHBOUR: 'it returns false'. Refute it at one input. -/
def namesUndoneWrong : ChangeSpec := { name := "namesUndone", fn := fun _ => fun
  | [d1, d2, d3] => { results := [.lit (.bool false)], args := [d1, d2, d3] }
  | _ => none }
def NamesUndoneWrongFalsely : Prop := namesUndoneRow.holds Try.pinned (OpenSpec.ofChange namesUndoneWrong)

/-- 'undertowlaw15.NamesLast': WHATEVER THE INPUT: true; the input reads as it did. -/
def namesLastSpec : ChangeSpec := { name := "namesLast", fn := fun _ => fun
  | [d1, d2, d3] => { results := [.lit (.bool true)], args := [d1, d2, d3] }
  | _ => none }
def namesLastRow : OpenClaim := { program := "ytoahejjeihmiiaa", sum := "94aa4a4a78742187d914c4eaefff3d4b48d72358b949ecc4182cea2404ea0db2", func := "undertow/undertowlaw15.NamesLast", spec := "namesLast", unfollowed := true, recurses := true, apart := false }
def NamesLastSaid : Prop := namesLastRow.holds Try.pinned (OpenSpec.ofChange namesLastSpec)

/-- ITS FALSE NEIGHBOUR: 'it returns false'. Refute it at one input. -/
def namesLastWrong : ChangeSpec := { name := "namesLast", fn := fun _ => fun
  | [d1, d2, d3] => { results := [.lit (.bool false)], args := [d1, d2, d3] }
  | _ => none }
def NamesLastWrongFalsely : Prop := namesLastRow.holds Try.pinned (OpenSpec.ofChange namesLastWrong)

/- THE SECOND FORM. 'bulk': how many values and letters a reading holds, each counted each time it is reached (what is shared counts as often as it is met; a slice's spare places count too). A statement '..UptoSaid' is the law's where the arguments, and the package variables that the reading takes, are together of bulk at most 1048576: NARROWER than '..Said'. Prove '..Said' where nothing that the law and all that it calls make is longer than what came in: it says more and counts as full. Else prove '..UptoSaid'. A law counts once. -/
mutual
def uptoBulk {H : Type} : DataW H → Nat
  | .lit (.string bytes) => bytes.length + 1
  | .lit _ => 1
  | .nil => 1
  | .ptr d => uptoBulk d + 1
  | .slice elems spare => uptoBulkAll elems + uptoBulkAll spare + 1
  | .agg parts => uptoBulkAll parts + 1
  | .iface _ d => uptoBulk d + 1
  | .map entries => uptoBulkEntries entries + 1
  | .held _ => 1
def uptoBulkAll {H : Type} : List (DataW H) → Nat
  | [] => 0
  | d :: r => uptoBulk d + uptoBulkAll r
def uptoBulkEntries {H : Type} : List (Lit × DataW H) → Nat
  | [] => 0
  | x :: r => uptoBulkEntry x + uptoBulkEntries r
def uptoBulkEntry {H : Type} : Lit × DataW H → Nat
  | (.string bytes, d) => bytes.length + uptoBulk d + 1
  | (_, d) => uptoBulk d + 1
 end
def uptoSmall : (H : Type) → List (DataW H) → Bool := fun _ ds => decide (uptoBulkAll ds ≤ 1048576)
def OpenSpec.upto (s : _root_.Go.ChangeSpec) : _root_.Go.OpenSpec := { _root_.Go.OpenSpec.ofChange s with cond := some uptoSmall }

/-- 'undertowlaw15.NamesPlays', WHERE WHAT IT READS IS OF BULK AT MOST 1048576: true; the input reads as it did. -/
def namesPlaysUptoRow : OpenClaim := { program := "ytoahejjeihmiiaa", sum := "94aa4a4a78742187d914c4eaefff3d4b48d72358b949ecc4182cea2404ea0db2", func := "undertow/undertowlaw15.NamesPlays", spec := "namesPlays", unfollowed := true, recurses := true, apart := false, narrowed := true }
def NamesPlaysUptoSaid : Prop := namesPlaysUptoRow.holds Try.pinned (OpenSpec.upto namesPlaysSpec)

/-- 'undertowlaw15.NamesNone', WHERE WHAT IT READS IS OF BULK AT MOST 1048576: true; the input reads as it did. -/
def namesNoneUptoRow : OpenClaim := { program := "ytoahejjeihmiiaa", sum := "94aa4a4a78742187d914c4eaefff3d4b48d72358b949ecc4182cea2404ea0db2", func := "undertow/undertowlaw15.NamesNone", spec := "namesNone", unfollowed := true, recurses := true, apart := false, narrowed := true }
def NamesNoneUptoSaid : Prop := namesNoneUptoRow.holds Try.pinned (OpenSpec.upto namesNoneSpec)

/-- 'undertowlaw15.NamesUndone', WHERE WHAT IT READS IS OF BULK AT MOST 1048576: true; the input reads as it did. -/
def namesUndoneUptoRow : OpenClaim := { program := "ytoahejjeihmiiaa", sum := "94aa4a4a78742187d914c4eaefff3d4b48d72358b949ecc4182cea2404ea0db2", func := "undertow/undertowlaw15.NamesUndone", spec := "namesUndone", unfollowed := true, recurses := true, apart := false, narrowed := true }
def NamesUndoneUptoSaid : Prop := namesUndoneUptoRow.holds Try.pinned (OpenSpec.upto namesUndoneSpec)

/-- 'undertowlaw15.NamesLast', WHERE WHAT IT READS IS OF BULK AT MOST 1048576: true; the input reads as it did. -/
def namesLastUptoRow : OpenClaim := { program := "ytoahejjeihmiiaa", sum := "94aa4a4a78742187d914c4eaefff3d4b48d72358b949ecc4182cea2404ea0db2", func := "undertow/undertowlaw15.NamesLast", spec := "namesLast", unfollowed := true, recurses := true, apart := false, narrowed := true }
def NamesLastUptoSaid : Prop := namesLastUptoRow.holds Try.pinned (OpenSpec.upto namesLastSpec)

end Rows
end Go.Proofs.Ytoahejjeihmiiaa
