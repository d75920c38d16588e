/-
  DERIVED. GIVEN WITH THE SEED: THE CARDS: each row of YtoaonoflekcccaaDoorRows.lean that lists a variable, with what it lists TIED to the program's text (the seventh form; the later family's looks); each row that meets fmt, with fmt's text TOLD by the authors' own Lean function (tested against real Go, not proved from fmt's source: count such statements apart). THE CARD IS WHAT COUNTS. Prove the row's statement (the work); the ties are given (YtoaonoflekcccaaDoorTie.lean); close each card by the builder's one call (the guide's Derived/Test/ToyasCard.lean, 'card_holds'). Laid BY PROGRAM, IN A SANDBOX (cutbox-door.mjs). By AI agents, Wed Nov 11 2026. No macro, syntax, notation, axiom, sorry.
-/
import Derived.Test.YtoaonoflekcccaaDoorRows
import GoSem.ClaimSeven
namespace Go.Proofs.YtoaonoflekcccaaDoor
namespace Rows

/-- THE TIED CARD OF 'undertowlaw16.LsqBehind'. -/
def lsqBehindCard : Claim7 := { stood := { row := lsqBehindRow, standIns := [], harness := (true, "6e88c6b46c320b378beab84bdc6ccea30fe4946e3aff859f2cc3c7de872935d3"), looks := false }, kinds := [], alts := [], laidByText := true, laidKinds := [.data], laidTests := true, laidLooks := .later }
def LsqBehindCardSaid : Prop := Claim7.holds Tryd.pinned (.plain (OpenSpec.ofChange lsqBehindSpec)) lsqBehindCard

/-- THE SECOND FORM's CARD OF 'undertowlaw16.LsqBehind'. -/
def lsqBehindUptoCard : Claim7 := { stood := { row := lsqBehindUptoRow, standIns := [], harness := (true, "6e88c6b46c320b378beab84bdc6ccea30fe4946e3aff859f2cc3c7de872935d3"), looks := false }, kinds := [], alts := [], laidByText := true, laidKinds := [.data], laidTests := true, laidLooks := .later }
def LsqBehindUptoCardSaid : Prop := Claim7.holds Tryd.pinned (.plain (OpenSpec.upto lsqBehindSpec)) lsqBehindUptoCard
end Rows
end Go.Proofs.YtoaonoflekcccaaDoor
