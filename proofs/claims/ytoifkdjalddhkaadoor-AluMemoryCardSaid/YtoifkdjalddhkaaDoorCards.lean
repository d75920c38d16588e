/-
  DERIVED. GIVEN WITH THE SEED: THE CARDS: each row of YtoifkdjalddhkaaDoorRows.lean that lists a variable, with what it lists TIED to the program's text (the seventh form; the later family's looks); each row that meets fmt, with fmt's text TOLD by the authors' own Lean function (tested against real Go, not proved from fmt's source: count such statements apart). THE CARD IS WHAT COUNTS. Prove the row's statement (the work); the ties are given (YtoifkdjalddhkaaDoorTie.lean); close each card by the builder's one call (the guide's Derived/Test/ToyasCard.lean, 'card_holds'). Laid BY PROGRAM, IN A SANDBOX (cutbox-door.mjs). By AI agents, Wed Nov 11 2026. No macro, syntax, notation, axiom, sorry.
-/
import Derived.Test.YtoifkdjalddhkaaDoorRows
import GoSem.ClaimSeven
namespace Go.Proofs.YtoifkdjalddhkaaDoor
namespace Rows

/-- THE TIED CARD OF 'undertowlaw08.AluResults'. -/
def aluResultsCard : Claim7 := { stood := { row := aluResultsRow, standIns := [], harness := (true, "73c7765ebf1c6dc6bda7f747a1cbe2ca07617a83e2c90451f7d852263d0c8141"), looks := false }, kinds := [], alts := [], laidByText := true, laidKinds := [.data, .data], laidTests := true, laidLooks := .later }
def AluResultsCardSaid : Prop := Claim7.holds Tryd.pinned (.plain (OpenSpec.ofChange aluResultsSpec)) aluResultsCard

/-- THE TIED CARD OF 'undertowlaw08.AluNext'. -/
def aluNextCard : Claim7 := { stood := { row := aluNextRow, standIns := [], harness := (true, "73c7765ebf1c6dc6bda7f747a1cbe2ca07617a83e2c90451f7d852263d0c8141"), looks := false }, kinds := [], alts := [], laidByText := true, laidKinds := [.data, .data], laidTests := true, laidLooks := .later }
def AluNextCardSaid : Prop := Claim7.holds Tryd.pinned (.plain (OpenSpec.ofChange aluNextSpec)) aluNextCard

/-- THE TIED CARD OF 'undertowlaw08.AluMemory'. -/
def aluMemoryCard : Claim7 := { stood := { row := aluMemoryRow, standIns := [], harness := (true, "73c7765ebf1c6dc6bda7f747a1cbe2ca07617a83e2c90451f7d852263d0c8141"), looks := false }, kinds := [], alts := [], laidByText := true, laidKinds := [.data, .data], laidTests := true, laidLooks := .later }
def AluMemoryCardSaid : Prop := Claim7.holds Tryd.pinned (.plain (OpenSpec.ofChange aluMemorySpec)) aluMemoryCard

/-- THE TIED CARD OF 'undertowlaw08.AluPairs'. -/
def aluPairsCard : Claim7 := { stood := { row := aluPairsRow, standIns := [], harness := (true, "73c7765ebf1c6dc6bda7f747a1cbe2ca07617a83e2c90451f7d852263d0c8141"), looks := false }, kinds := [], alts := [], laidByText := true, laidKinds := [.data, .data], laidTests := true, laidLooks := .later }
def AluPairsCardSaid : Prop := Claim7.holds Tryd.pinned (.plain (OpenSpec.ofChange aluPairsSpec)) aluPairsCard

/-- THE TIED CARD OF 'undertowlaw08.AluBack'. -/
def aluBackCard : Claim7 := { stood := { row := aluBackRow, standIns := [], harness := (true, "73c7765ebf1c6dc6bda7f747a1cbe2ca07617a83e2c90451f7d852263d0c8141"), looks := false }, kinds := [], alts := [], laidByText := true, laidKinds := [.data, .data], laidTests := true, laidLooks := .later }
def AluBackCardSaid : Prop := Claim7.holds Tryd.pinned (.plain (OpenSpec.ofChange aluBackSpec)) aluBackCard

/-- THE SECOND FORM's CARD OF 'undertowlaw08.AluResults'. -/
def aluResultsUptoCard : Claim7 := { stood := { row := aluResultsUptoRow, standIns := [], harness := (true, "73c7765ebf1c6dc6bda7f747a1cbe2ca07617a83e2c90451f7d852263d0c8141"), looks := false }, kinds := [], alts := [], laidByText := true, laidKinds := [.data, .data], laidTests := true, laidLooks := .later }
def AluResultsUptoCardSaid : Prop := Claim7.holds Tryd.pinned (.plain (OpenSpec.upto aluResultsSpec)) aluResultsUptoCard

/-- THE SECOND FORM's CARD OF 'undertowlaw08.AluNext'. -/
def aluNextUptoCard : Claim7 := { stood := { row := aluNextUptoRow, standIns := [], harness := (true, "73c7765ebf1c6dc6bda7f747a1cbe2ca07617a83e2c90451f7d852263d0c8141"), looks := false }, kinds := [], alts := [], laidByText := true, laidKinds := [.data, .data], laidTests := true, laidLooks := .later }
def AluNextUptoCardSaid : Prop := Claim7.holds Tryd.pinned (.plain (OpenSpec.upto aluNextSpec)) aluNextUptoCard

/-- THE SECOND FORM's CARD OF 'undertowlaw08.AluMemory'. -/
def aluMemoryUptoCard : Claim7 := { stood := { row := aluMemoryUptoRow, standIns := [], harness := (true, "73c7765ebf1c6dc6bda7f747a1cbe2ca07617a83e2c90451f7d852263d0c8141"), looks := false }, kinds := [], alts := [], laidByText := true, laidKinds := [.data, .data], laidTests := true, laidLooks := .later }
def AluMemoryUptoCardSaid : Prop := Claim7.holds Tryd.pinned (.plain (OpenSpec.upto aluMemorySpec)) aluMemoryUptoCard

/-- THE SECOND FORM's CARD OF 'undertowlaw08.AluPairs'. -/
def aluPairsUptoCard : Claim7 := { stood := { row := aluPairsUptoRow, standIns := [], harness := (true, "73c7765ebf1c6dc6bda7f747a1cbe2ca07617a83e2c90451f7d852263d0c8141"), looks := false }, kinds := [], alts := [], laidByText := true, laidKinds := [.data, .data], laidTests := true, laidLooks := .later }
def AluPairsUptoCardSaid : Prop := Claim7.holds Tryd.pinned (.plain (OpenSpec.upto aluPairsSpec)) aluPairsUptoCard

/-- THE SECOND FORM's CARD OF 'undertowlaw08.AluBack'. -/
def aluBackUptoCard : Claim7 := { stood := { row := aluBackUptoRow, standIns := [], harness := (true, "73c7765ebf1c6dc6bda7f747a1cbe2ca07617a83e2c90451f7d852263d0c8141"), looks := false }, kinds := [], alts := [], laidByText := true, laidKinds := [.data, .data], laidTests := true, laidLooks := .later }
def AluBackUptoCardSaid : Prop := Claim7.holds Tryd.pinned (.plain (OpenSpec.upto aluBackSpec)) aluBackUptoCard
end Rows
end Go.Proofs.YtoifkdjalddhkaaDoor
