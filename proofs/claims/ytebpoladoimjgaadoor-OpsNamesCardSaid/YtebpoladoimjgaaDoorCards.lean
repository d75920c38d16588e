/-
  DERIVED. GIVEN WITH THE SEED: THE CARDS: each row of YtebpoladoimjgaaDoorRows.lean that lists a variable, with what it lists TIED to the program's text (the seventh form; the later family's looks); each row that meets fmt, with fmt's text TOLD by the authors' own Lean function (tested against real Go, not proved from fmt's source: count such statements apart). THE CARD IS WHAT COUNTS. Prove the row's statement (the work); the ties are given (YtebpoladoimjgaaDoorTie.lean); close each card by the builder's one call (the guide's Derived/Test/ToyasCard.lean, 'card_holds'). Laid BY PROGRAM, IN A SANDBOX (cutbox-door.mjs). By AI agents, Wed Nov 11 2026. No macro, syntax, notation, axiom, sorry.
-/
import Derived.Test.YtebpoladoimjgaaDoorRows
import GoSem.ClaimSeven
namespace Go.Proofs.YtebpoladoimjgaaDoor
namespace Rows

/-- THE TIED CARD OF 'undertowlaw05.OpsSorts'. -/
def opsSortsCard : Claim7 := { stood := { row := opsSortsRow, standIns := [], harness := (true, "fa2366f687806f176b05d4adafee35853949b930e6dccf0d1de680729a96528c"), looks := false }, kinds := [], alts := [], laidByText := true, laidKinds := [.data, .data], laidTests := true, laidLooks := .later }
def OpsSortsCardSaid : Prop := Claim7.holds Tryd.pinned (.plain (OpenSpec.ofChange opsSortsSpec)) opsSortsCard

/-- THE TIED CARD OF 'undertowlaw05.OpsRegisters'. -/
def opsRegistersCard : Claim7 := { stood := { row := opsRegistersRow, standIns := [], harness := (true, "fa2366f687806f176b05d4adafee35853949b930e6dccf0d1de680729a96528c"), looks := false }, kinds := [], alts := [], laidByText := true, laidKinds := [.data, .data], laidTests := true, laidLooks := .later }
def OpsRegistersCardSaid : Prop := Claim7.holds Tryd.pinned (.plain (OpenSpec.ofChange opsRegistersSpec)) opsRegistersCard

/-- THE TIED CARD OF 'undertowlaw05.OpsNames'. -/
def opsNamesCard : Claim7 := { stood := { row := opsNamesRow, standIns := [], harness := (true, "fa2366f687806f176b05d4adafee35853949b930e6dccf0d1de680729a96528c"), looks := false }, kinds := [], alts := [], laidByText := true, laidKinds := [.data, .data], laidTests := true, laidLooks := .later }
def OpsNamesCardSaid : Prop := Claim7.holds Tryd.pinned (.plain (OpenSpec.ofChange opsNamesSpec)) opsNamesCard

/-- THE SECOND FORM's CARD OF 'undertowlaw05.OpsSorts'. -/
def opsSortsUptoCard : Claim7 := { stood := { row := opsSortsUptoRow, standIns := [], harness := (true, "fa2366f687806f176b05d4adafee35853949b930e6dccf0d1de680729a96528c"), looks := false }, kinds := [], alts := [], laidByText := true, laidKinds := [.data, .data], laidTests := true, laidLooks := .later }
def OpsSortsUptoCardSaid : Prop := Claim7.holds Tryd.pinned (.plain (OpenSpec.upto opsSortsSpec)) opsSortsUptoCard

/-- THE SECOND FORM's CARD OF 'undertowlaw05.OpsRegisters'. -/
def opsRegistersUptoCard : Claim7 := { stood := { row := opsRegistersUptoRow, standIns := [], harness := (true, "fa2366f687806f176b05d4adafee35853949b930e6dccf0d1de680729a96528c"), looks := false }, kinds := [], alts := [], laidByText := true, laidKinds := [.data, .data], laidTests := true, laidLooks := .later }
def OpsRegistersUptoCardSaid : Prop := Claim7.holds Tryd.pinned (.plain (OpenSpec.upto opsRegistersSpec)) opsRegistersUptoCard

/-- THE SECOND FORM's CARD OF 'undertowlaw05.OpsNames'. -/
def opsNamesUptoCard : Claim7 := { stood := { row := opsNamesUptoRow, standIns := [], harness := (true, "fa2366f687806f176b05d4adafee35853949b930e6dccf0d1de680729a96528c"), looks := false }, kinds := [], alts := [], laidByText := true, laidKinds := [.data, .data], laidTests := true, laidLooks := .later }
def OpsNamesUptoCardSaid : Prop := Claim7.holds Tryd.pinned (.plain (OpenSpec.upto opsNamesSpec)) opsNamesUptoCard
end Rows
end Go.Proofs.YtebpoladoimjgaaDoor
