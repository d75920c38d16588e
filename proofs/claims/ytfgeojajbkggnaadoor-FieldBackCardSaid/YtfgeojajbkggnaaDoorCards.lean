/-
  DERIVED. GIVEN WITH THE SEED: THE CARDS: each row of YtfgeojajbkggnaaDoorRows.lean that lists a variable, with what it lists TIED to the program's text (the seventh form; the later family's looks); each row that meets fmt, with fmt's text TOLD by the authors' own Lean function (tested against real Go, not proved from fmt's source: count such statements apart). THE CARD IS WHAT COUNTS. Prove the row's statement (the work); the ties are given (YtfgeojajbkggnaaDoorTie.lean); close each card by the builder's one call (the guide's Derived/Test/ToyasCard.lean, 'card_holds'). Laid BY PROGRAM, IN A SANDBOX (cutbox-door.mjs). By AI agents, Wed Nov 11 2026. No macro, syntax, notation, axiom, sorry.
-/
import Derived.Test.YtfgeojajbkggnaaDoorRows
import GoSem.ClaimSeven
namespace Go.Proofs.YtfgeojajbkggnaaDoor
namespace Rows

/-- THE TIED CARD OF 'undertowlaw04.FieldPuts'. -/
def fieldPutsCard : Claim7 := { stood := { row := fieldPutsRow, standIns := [], harness := (true, "627f6964f27d734de1767e37ef1fd85387de621fffa070a99071374a3756050f"), looks := false }, kinds := [], alts := [], laidByText := true, laidKinds := [.data], laidTests := true, laidLooks := .later }
def FieldPutsCardSaid : Prop := Claim7.holds Tryd.pinned (.plain (OpenSpec.ofChange fieldPutsSpec)) fieldPutsCard

/-- THE TIED CARD OF 'undertowlaw04.FieldGets'. -/
def fieldGetsCard : Claim7 := { stood := { row := fieldGetsRow, standIns := [], harness := (true, "627f6964f27d734de1767e37ef1fd85387de621fffa070a99071374a3756050f"), looks := false }, kinds := [], alts := [], laidByText := true, laidKinds := [.data], laidTests := true, laidLooks := .later }
def FieldGetsCardSaid : Prop := Claim7.holds Tryd.pinned (.plain (OpenSpec.ofChange fieldGetsSpec)) fieldGetsCard

/-- THE TIED CARD OF 'undertowlaw04.FieldBack'. -/
def fieldBackCard : Claim7 := { stood := { row := fieldBackRow, standIns := [], harness := (true, "627f6964f27d734de1767e37ef1fd85387de621fffa070a99071374a3756050f"), looks := false }, kinds := [], alts := [], laidByText := true, laidKinds := [.data], laidTests := true, laidLooks := .later }
def FieldBackCardSaid : Prop := Claim7.holds Tryd.pinned (.plain (OpenSpec.ofChange fieldBackSpec)) fieldBackCard

/-- THE SECOND FORM's CARD OF 'undertowlaw04.FieldPuts'. -/
def fieldPutsUptoCard : Claim7 := { stood := { row := fieldPutsUptoRow, standIns := [], harness := (true, "627f6964f27d734de1767e37ef1fd85387de621fffa070a99071374a3756050f"), looks := false }, kinds := [], alts := [], laidByText := true, laidKinds := [.data], laidTests := true, laidLooks := .later }
def FieldPutsUptoCardSaid : Prop := Claim7.holds Tryd.pinned (.plain (OpenSpec.upto fieldPutsSpec)) fieldPutsUptoCard

/-- THE SECOND FORM's CARD OF 'undertowlaw04.FieldGets'. -/
def fieldGetsUptoCard : Claim7 := { stood := { row := fieldGetsUptoRow, standIns := [], harness := (true, "627f6964f27d734de1767e37ef1fd85387de621fffa070a99071374a3756050f"), looks := false }, kinds := [], alts := [], laidByText := true, laidKinds := [.data], laidTests := true, laidLooks := .later }
def FieldGetsUptoCardSaid : Prop := Claim7.holds Tryd.pinned (.plain (OpenSpec.upto fieldGetsSpec)) fieldGetsUptoCard

/-- THE SECOND FORM's CARD OF 'undertowlaw04.FieldBack'. -/
def fieldBackUptoCard : Claim7 := { stood := { row := fieldBackUptoRow, standIns := [], harness := (true, "627f6964f27d734de1767e37ef1fd85387de621fffa070a99071374a3756050f"), looks := false }, kinds := [], alts := [], laidByText := true, laidKinds := [.data], laidTests := true, laidLooks := .later }
def FieldBackUptoCardSaid : Prop := Claim7.holds Tryd.pinned (.plain (OpenSpec.upto fieldBackSpec)) fieldBackUptoCard
end Rows
end Go.Proofs.YtfgeojajbkggnaaDoor
