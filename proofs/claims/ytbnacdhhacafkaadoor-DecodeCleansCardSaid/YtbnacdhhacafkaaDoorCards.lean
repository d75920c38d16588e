/-
  DERIVED. GIVEN WITH THE SEED: THE CARDS: each row of YtbnacdhhacafkaaDoorRows.lean that lists a variable, with what it lists TIED to the program's text (the seventh form; the later family's looks); each row that meets fmt, with fmt's text TOLD by the authors' own Lean function (tested against real Go, not proved from fmt's source: count such statements apart). THE CARD IS WHAT COUNTS. Prove the row's statement (the work); the ties are given (YtbnacdhhacafkaaDoorTie.lean); close each card by the builder's one call (the guide's Derived/Test/ToyasCard.lean, 'card_holds'). Laid BY PROGRAM, IN A SANDBOX (cutbox-door.mjs). By AI agents, Wed Nov 11 2026. No macro, syntax, notation, axiom, sorry.
-/
import Derived.Test.YtbnacdhhacafkaaDoorRows
import GoSem.ClaimSeven
namespace Go.Proofs.YtbnacdhhacafkaaDoor
namespace Rows

/-- THE TIED CARD OF 'undertowlaw06.DecodeWords'. -/
def decodeWordsCard : Claim7 := { stood := { row := decodeWordsRow, standIns := [], harness := (true, "6c5e888c89fdf79673eaf28a2fe717fd75b41a40e814771fbe63ac95f8871423"), looks := false }, kinds := [], alts := [], laidByText := true, laidKinds := [.data, .data, .data, .data, .data, .data, .data, .data, .data, .data, .data, .data, .data, .data, .data, .data, .data, .data, .data, .data], laidTests := true, laidLooks := .later }
def DecodeWordsCardSaid : Prop := Claim7.holds Tryd.pinned (.plain (OpenSpec.ofChange decodeWordsSpec)) decodeWordsCard

/-- THE TIED CARD OF 'undertowlaw06.DecodeFields'. -/
def decodeFieldsCard : Claim7 := { stood := { row := decodeFieldsRow, standIns := [], harness := (true, "6c5e888c89fdf79673eaf28a2fe717fd75b41a40e814771fbe63ac95f8871423"), looks := false }, kinds := [], alts := [], laidByText := true, laidKinds := [.data, .data, .data, .data, .data, .data, .data, .data, .data, .data, .data, .data, .data, .data, .data, .data, .data, .data, .data, .data], laidTests := true, laidLooks := .later }
def DecodeFieldsCardSaid : Prop := Claim7.holds Tryd.pinned (.plain (OpenSpec.ofChange decodeFieldsSpec)) decodeFieldsCard

/-- THE TIED CARD OF 'undertowlaw06.DecodeCleans'. -/
def decodeCleansCard : Claim7 := { stood := { row := decodeCleansRow, standIns := [], harness := (true, "6c5e888c89fdf79673eaf28a2fe717fd75b41a40e814771fbe63ac95f8871423"), looks := false }, kinds := [], alts := [], laidByText := true, laidKinds := [.data, .data, .data, .data, .data, .data, .data, .data, .data, .data, .data, .data, .data, .data, .data, .data, .data, .data, .data, .data], laidTests := true, laidLooks := .later }
def DecodeCleansCardSaid : Prop := Claim7.holds Tryd.pinned (.plain (OpenSpec.ofChange decodeCleansSpec)) decodeCleansCard

/-- THE TIED CARD OF 'undertowlaw06.DecodeSome'. -/
def decodeSomeCard : Claim7 := { stood := { row := decodeSomeRow, standIns := [], harness := (true, "6c5e888c89fdf79673eaf28a2fe717fd75b41a40e814771fbe63ac95f8871423"), looks := false }, kinds := [], alts := [], laidByText := true, laidKinds := [.data, .data, .data, .data, .data, .data, .data, .data, .data, .data, .data, .data, .data, .data, .data, .data, .data, .data, .data, .data], laidTests := true, laidLooks := .later }
def DecodeSomeCardSaid : Prop := Claim7.holds Tryd.pinned (.plain (OpenSpec.ofChange decodeSomeSpec)) decodeSomeCard

/-- THE SECOND FORM's CARD OF 'undertowlaw06.DecodeWords'. -/
def decodeWordsUptoCard : Claim7 := { stood := { row := decodeWordsUptoRow, standIns := [], harness := (true, "6c5e888c89fdf79673eaf28a2fe717fd75b41a40e814771fbe63ac95f8871423"), looks := false }, kinds := [], alts := [], laidByText := true, laidKinds := [.data, .data, .data, .data, .data, .data, .data, .data, .data, .data, .data, .data, .data, .data, .data, .data, .data, .data, .data, .data], laidTests := true, laidLooks := .later }
def DecodeWordsUptoCardSaid : Prop := Claim7.holds Tryd.pinned (.plain (OpenSpec.upto decodeWordsSpec)) decodeWordsUptoCard

/-- THE SECOND FORM's CARD OF 'undertowlaw06.DecodeFields'. -/
def decodeFieldsUptoCard : Claim7 := { stood := { row := decodeFieldsUptoRow, standIns := [], harness := (true, "6c5e888c89fdf79673eaf28a2fe717fd75b41a40e814771fbe63ac95f8871423"), looks := false }, kinds := [], alts := [], laidByText := true, laidKinds := [.data, .data, .data, .data, .data, .data, .data, .data, .data, .data, .data, .data, .data, .data, .data, .data, .data, .data, .data, .data], laidTests := true, laidLooks := .later }
def DecodeFieldsUptoCardSaid : Prop := Claim7.holds Tryd.pinned (.plain (OpenSpec.upto decodeFieldsSpec)) decodeFieldsUptoCard

/-- THE SECOND FORM's CARD OF 'undertowlaw06.DecodeCleans'. -/
def decodeCleansUptoCard : Claim7 := { stood := { row := decodeCleansUptoRow, standIns := [], harness := (true, "6c5e888c89fdf79673eaf28a2fe717fd75b41a40e814771fbe63ac95f8871423"), looks := false }, kinds := [], alts := [], laidByText := true, laidKinds := [.data, .data, .data, .data, .data, .data, .data, .data, .data, .data, .data, .data, .data, .data, .data, .data, .data, .data, .data, .data], laidTests := true, laidLooks := .later }
def DecodeCleansUptoCardSaid : Prop := Claim7.holds Tryd.pinned (.plain (OpenSpec.upto decodeCleansSpec)) decodeCleansUptoCard

/-- THE SECOND FORM's CARD OF 'undertowlaw06.DecodeSome'. -/
def decodeSomeUptoCard : Claim7 := { stood := { row := decodeSomeUptoRow, standIns := [], harness := (true, "6c5e888c89fdf79673eaf28a2fe717fd75b41a40e814771fbe63ac95f8871423"), looks := false }, kinds := [], alts := [], laidByText := true, laidKinds := [.data, .data, .data, .data, .data, .data, .data, .data, .data, .data, .data, .data, .data, .data, .data, .data, .data, .data, .data, .data], laidTests := true, laidLooks := .later }
def DecodeSomeUptoCardSaid : Prop := Claim7.holds Tryd.pinned (.plain (OpenSpec.upto decodeSomeSpec)) decodeSomeUptoCard
end Rows
end Go.Proofs.YtbnacdhhacafkaaDoor
