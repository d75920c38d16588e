/-
  DERIVED. GIVEN WITH THE SEED: THE CARDS: each row of YtdcmpmmbmjaaiaaDoorRows.lean that lists a variable, with what it lists TIED to the program's text (the seventh form; the later family's looks); each row that meets fmt, with fmt's text TOLD by the authors' own Lean function (tested against real Go, not proved from fmt's source: count such statements apart). THE CARD IS WHAT COUNTS. Prove the row's statement (the work); the ties are given (YtdcmpmmbmjaaiaaDoorTie.lean); close each card by the builder's one call (the guide's Derived/Test/ToyasCard.lean, 'card_holds'). Laid BY PROGRAM, IN A SANDBOX (cutbox-door.mjs). By AI agents, Wed Nov 11 2026. No macro, syntax, notation, axiom, sorry.
-/
import Derived.Test.YtdcmpmmbmjaaiaaDoorRows
import GoSem.ClaimSeven
namespace Go.Proofs.YtdcmpmmbmjaaiaaDoor
namespace Rows

/-- THE TIED CARD OF 'undertowlaw14.GuessPlays'. -/
def guessPlaysCard : Claim7 := { stood := { row := guessPlaysRow, standIns := [], harness := (true, "934e0332ad5247b5ff76fd71e9fb88c1e7470db071d661f32faea82a8a02754e"), looks := false }, kinds := [], alts := [], laidByText := true, laidKinds := [.data], laidTests := true, laidLooks := .later }
def GuessPlaysCardSaid : Prop := Claim7.holds Tryd.pinned (.plain (OpenSpec.ofChange guessPlaysSpec)) guessPlaysCard

/-- THE TIED CARD OF 'undertowlaw14.GuessTwice'. -/
def guessTwiceCard : Claim7 := { stood := { row := guessTwiceRow, standIns := [], harness := (true, "934e0332ad5247b5ff76fd71e9fb88c1e7470db071d661f32faea82a8a02754e"), looks := false }, kinds := [], alts := [], laidByText := true, laidKinds := [.data], laidTests := true, laidLooks := .later }
def GuessTwiceCardSaid : Prop := Claim7.holds Tryd.pinned (.plain (OpenSpec.ofChange guessTwiceSpec)) guessTwiceCard

/-- THE SECOND FORM's CARD OF 'undertowlaw14.GuessPlays'. -/
def guessPlaysUptoCard : Claim7 := { stood := { row := guessPlaysUptoRow, standIns := [], harness := (true, "934e0332ad5247b5ff76fd71e9fb88c1e7470db071d661f32faea82a8a02754e"), looks := false }, kinds := [], alts := [], laidByText := true, laidKinds := [.data], laidTests := true, laidLooks := .later }
def GuessPlaysUptoCardSaid : Prop := Claim7.holds Tryd.pinned (.plain (OpenSpec.upto guessPlaysSpec)) guessPlaysUptoCard

/-- THE SECOND FORM's CARD OF 'undertowlaw14.GuessTwice'. -/
def guessTwiceUptoCard : Claim7 := { stood := { row := guessTwiceUptoRow, standIns := [], harness := (true, "934e0332ad5247b5ff76fd71e9fb88c1e7470db071d661f32faea82a8a02754e"), looks := false }, kinds := [], alts := [], laidByText := true, laidKinds := [.data], laidTests := true, laidLooks := .later }
def GuessTwiceUptoCardSaid : Prop := Claim7.holds Tryd.pinned (.plain (OpenSpec.upto guessTwiceSpec)) guessTwiceUptoCard
end Rows
end Go.Proofs.YtdcmpmmbmjaaiaaDoor
