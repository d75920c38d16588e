/-
  DERIVED. GIVEN WITH THE SEED: THE CARDS: each row of YtoeekibcelaloaaGreatDoorRows.lean that lists a variable, with what it lists TIED to the program's text (the seventh form; the later family's looks); each row that meets fmt, with fmt's text TOLD by the authors' own Lean function (tested against real Go, not proved from fmt's source: count such statements apart). THE CARD IS WHAT COUNTS. Prove the row's statement (the work); the ties are given (YtoeekibcelaloaaGreatDoorTie.lean); close each card by the builder's one call (the guide's Derived/Test/ToyasCard.lean, 'card_holds'). Laid BY PROGRAM, IN A SANDBOX (cutbox-door.mjs). By AI agents, Wed Nov 11 2026. No macro, syntax, notation, axiom, sorry.
-/
import Derived.Test.YtoeekibcelaloaaGreatDoorRows
import GoSem.ClaimSeven
namespace Go.Proofs.YtoeekibcelaloaaGreatDoor
namespace Rows

/-- THE TIED CARD OF 'undertowlaw11.SeqSteps'. -/
def seqStepsCard : Claim7 := { stood := { row := seqStepsRow, standIns := [], harness := (true, "b0d6533189215178e9f1d176502b27809525bfc762fa444d5bdfb39a69cb2204"), looks := false }, kinds := [], alts := [], laidByText := true, laidKinds := [.data, .data, .data, .data, .data, .data, .data, .pinned], laidTests := true, laidLooks := .later }
def SeqStepsCardSaid : Prop := Claim7.holds Tryz.pinned (.plain (OpenSpec.ofChange seqStepsSpec)) seqStepsCard

/-- THE TIED CARD OF 'undertowlaw11.SeqAlone'. -/
def seqAloneCard : Claim7 := { stood := { row := seqAloneRow, standIns := [], harness := (true, "b0d6533189215178e9f1d176502b27809525bfc762fa444d5bdfb39a69cb2204"), looks := false }, kinds := [], alts := [], laidByText := true, laidKinds := [.data, .data, .data, .data, .data, .data, .data, .pinned], laidTests := true, laidLooks := .later }
def SeqAloneCardSaid : Prop := Claim7.holds Tryz.pinned (.plain (OpenSpec.ofChange seqAloneSpec)) seqAloneCard

/-- THE SECOND FORM's CARD OF 'undertowlaw11.SeqSteps'. -/
def seqStepsUptoCard : Claim7 := { stood := { row := seqStepsUptoRow, standIns := [], harness := (true, "b0d6533189215178e9f1d176502b27809525bfc762fa444d5bdfb39a69cb2204"), looks := false }, kinds := [], alts := [], laidByText := true, laidKinds := [.data, .data, .data, .data, .data, .data, .data, .pinned], laidTests := true, laidLooks := .later }
def SeqStepsUptoCardSaid : Prop := Claim7.holds Tryz.pinned (.plain (OpenSpec.upto seqStepsSpec)) seqStepsUptoCard

/-- THE SECOND FORM's CARD OF 'undertowlaw11.SeqAlone'. -/
def seqAloneUptoCard : Claim7 := { stood := { row := seqAloneUptoRow, standIns := [], harness := (true, "b0d6533189215178e9f1d176502b27809525bfc762fa444d5bdfb39a69cb2204"), looks := false }, kinds := [], alts := [], laidByText := true, laidKinds := [.data, .data, .data, .data, .data, .data, .data, .pinned], laidTests := true, laidLooks := .later }
def SeqAloneUptoCardSaid : Prop := Claim7.holds Tryz.pinned (.plain (OpenSpec.upto seqAloneSpec)) seqAloneUptoCard
end Rows
end Go.Proofs.YtoeekibcelaloaaGreatDoor
