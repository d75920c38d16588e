/-
  DERIVED. GIVEN WITH THE SEED: THE CARDS: each row of YtlmllpielifepaaDoorRows.lean that lists a variable, with what it lists TIED to the program's text (the seventh form; the later family's looks); each row that meets fmt, with fmt's text TOLD by the authors' own Lean function (tested against real Go, not proved from fmt's source: count such statements apart). THE CARD IS WHAT COUNTS. Prove the row's statement (the work); the ties are given (YtlmllpielifepaaDoorTie.lean); close each card by the builder's one call (the guide's Derived/Test/ToyasCard.lean, 'card_holds'). Laid BY PROGRAM, IN A SANDBOX (cutbox-door.mjs). By AI agents, Wed Nov 11 2026. No macro, syntax, notation, axiom, sorry.
-/
import Derived.Test.YtlmllpielifepaaDoorRows
import GoSem.ClaimSeven
namespace Go.Proofs.YtlmllpielifepaaDoor
namespace Rows

/-- THE TIED CARD OF 'undertowlaw07.EncodeWords'. -/
def encodeWordsCard : Claim7 := { stood := { row := encodeWordsRow, standIns := [], harness := (true, "a5e6e450e8fef9b67dcd9c7844423713aa1a8e913d6b6fbc54f9ad84b7e84019"), looks := false }, kinds := [], alts := [], laidByText := true, laidKinds := [.data, .data, .data, .data, .data, .data, .data, .data, .data, .data, .data, .data, .data, .data, .data, .data, .data, .data, .data, .data, .data, .data], laidTests := true, laidLooks := .later }
def EncodeWordsCardSaid : Prop := Claim7.holds Tryd.pinned (.plain (OpenSpec.ofChange encodeWordsSpec)) encodeWordsCard

/-- THE TIED CARD OF 'undertowlaw07.EncodePrograms'. -/
def encodeProgramsCard : Claim7 := { stood := { row := encodeProgramsRow, standIns := [], harness := (true, "a5e6e450e8fef9b67dcd9c7844423713aa1a8e913d6b6fbc54f9ad84b7e84019"), looks := false }, kinds := [], alts := [], laidByText := true, laidKinds := [.data, .data, .data, .data, .data, .data, .data, .data, .data, .data, .data, .data, .data, .data, .data, .data, .data, .data, .data, .data, .data, .data], laidTests := true, laidLooks := .later }
def EncodeProgramsCardSaid : Prop := Claim7.holds Tryd.pinned (.plain (OpenSpec.ofChange encodeProgramsSpec)) encodeProgramsCard

/-- THE TIED CARD OF 'undertowlaw07.EncodeBack'. -/
def encodeBackCard : Claim7 := { stood := { row := encodeBackRow, standIns := [], harness := (true, "a5e6e450e8fef9b67dcd9c7844423713aa1a8e913d6b6fbc54f9ad84b7e84019"), looks := false }, kinds := [], alts := [], laidByText := true, laidKinds := [.data, .data, .data, .data, .data, .data, .data, .data, .data, .data, .data, .data, .data, .data, .data, .data, .data, .data, .data, .data, .data, .data], laidTests := true, laidLooks := .later }
def EncodeBackCardSaid : Prop := Claim7.holds Tryd.pinned (.plain (OpenSpec.ofChange encodeBackSpec)) encodeBackCard

/-- THE TIED CARD OF 'undertowlaw07.EncodeUnlike'. -/
def encodeUnlikeCard : Claim7 := { stood := { row := encodeUnlikeRow, standIns := [], harness := (true, "a5e6e450e8fef9b67dcd9c7844423713aa1a8e913d6b6fbc54f9ad84b7e84019"), looks := false }, kinds := [], alts := [], laidByText := true, laidKinds := [.data, .data, .data, .data, .data, .data, .data, .data, .data, .data, .data, .data, .data, .data, .data, .data, .data, .data, .data, .data, .data, .data], laidTests := true, laidLooks := .later }
def EncodeUnlikeCardSaid : Prop := Claim7.holds Tryd.pinned (.plain (OpenSpec.ofChange encodeUnlikeSpec)) encodeUnlikeCard

/-- THE SECOND FORM's CARD OF 'undertowlaw07.EncodeWords'. -/
def encodeWordsUptoCard : Claim7 := { stood := { row := encodeWordsUptoRow, standIns := [], harness := (true, "a5e6e450e8fef9b67dcd9c7844423713aa1a8e913d6b6fbc54f9ad84b7e84019"), looks := false }, kinds := [], alts := [], laidByText := true, laidKinds := [.data, .data, .data, .data, .data, .data, .data, .data, .data, .data, .data, .data, .data, .data, .data, .data, .data, .data, .data, .data, .data, .data], laidTests := true, laidLooks := .later }
def EncodeWordsUptoCardSaid : Prop := Claim7.holds Tryd.pinned (.plain (OpenSpec.upto encodeWordsSpec)) encodeWordsUptoCard

/-- THE SECOND FORM's CARD OF 'undertowlaw07.EncodePrograms'. -/
def encodeProgramsUptoCard : Claim7 := { stood := { row := encodeProgramsUptoRow, standIns := [], harness := (true, "a5e6e450e8fef9b67dcd9c7844423713aa1a8e913d6b6fbc54f9ad84b7e84019"), looks := false }, kinds := [], alts := [], laidByText := true, laidKinds := [.data, .data, .data, .data, .data, .data, .data, .data, .data, .data, .data, .data, .data, .data, .data, .data, .data, .data, .data, .data, .data, .data], laidTests := true, laidLooks := .later }
def EncodeProgramsUptoCardSaid : Prop := Claim7.holds Tryd.pinned (.plain (OpenSpec.upto encodeProgramsSpec)) encodeProgramsUptoCard

/-- THE SECOND FORM's CARD OF 'undertowlaw07.EncodeBack'. -/
def encodeBackUptoCard : Claim7 := { stood := { row := encodeBackUptoRow, standIns := [], harness := (true, "a5e6e450e8fef9b67dcd9c7844423713aa1a8e913d6b6fbc54f9ad84b7e84019"), looks := false }, kinds := [], alts := [], laidByText := true, laidKinds := [.data, .data, .data, .data, .data, .data, .data, .data, .data, .data, .data, .data, .data, .data, .data, .data, .data, .data, .data, .data, .data, .data], laidTests := true, laidLooks := .later }
def EncodeBackUptoCardSaid : Prop := Claim7.holds Tryd.pinned (.plain (OpenSpec.upto encodeBackSpec)) encodeBackUptoCard

/-- THE SECOND FORM's CARD OF 'undertowlaw07.EncodeUnlike'. -/
def encodeUnlikeUptoCard : Claim7 := { stood := { row := encodeUnlikeUptoRow, standIns := [], harness := (true, "a5e6e450e8fef9b67dcd9c7844423713aa1a8e913d6b6fbc54f9ad84b7e84019"), looks := false }, kinds := [], alts := [], laidByText := true, laidKinds := [.data, .data, .data, .data, .data, .data, .data, .data, .data, .data, .data, .data, .data, .data, .data, .data, .data, .data, .data, .data, .data, .data], laidTests := true, laidLooks := .later }
def EncodeUnlikeUptoCardSaid : Prop := Claim7.holds Tryd.pinned (.plain (OpenSpec.upto encodeUnlikeSpec)) encodeUnlikeUptoCard
end Rows
end Go.Proofs.YtlmllpielifepaaDoor
