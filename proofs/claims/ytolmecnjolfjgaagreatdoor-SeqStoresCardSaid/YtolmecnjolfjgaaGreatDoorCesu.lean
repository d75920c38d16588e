/- The contract of the document's List. The contract of the document's Same. What is asked of the program's functions of package encode (each proved of the code, at its round); the laws on words, walked over it. -/
import Derived.Test.YtolmecnjolfjgaaGreatDoorRows
import Derived.Test.YtolmecnjolfjgaaGreatDoorBau
import Derived.Test.YtolmecnjolfjgaaGreatDoorOcu
import Derived.WalkKit
import Derived.WalkLawsBesides
import Derived.Deep.QuietTactic
import Derived.BigQuiet
import Derived.WalkSmall
import Derived.WalkSpells
import Derived.Lib.Hide
import Derived.IntWalk
import Derived.Below
import Derived.Outline
import Derived.LoopTactic
import Derived.Deep.LoopGhost
import Derived.Test.YtolmecnjolfjgaaGreatDoorEwu
import Derived.Test.YtolmecnjolfjgaaGreatDoorRgu
set_option maxRecDepth 100000
namespace Go.Proofs.YtolmecnjolfjgaaGreatDoor
open Go.RowKit

/-- The word of the four bytes from a place on. -/
def word4 (bs : List Int) (n : Nat) : Int := bs.getD n 0 + 256 * bs.getD (n + 1) 0 + 65536 * bs.getD (n + 2) 0 + 16777216 * bs.getD (n + 3) 0
theorem w32 {x : Int} (h : 0 ≤ x ∧ x < 4294967296) : IntKind.u32.wrap x = x := by rw [IntKind.wrap_u32]; omega
theorem byte_at {bs : List Int} (hb : ∀ b ∈ bs, 0 ≤ b ∧ b < 256) {i : Nat} (hi : i < bs.length) : 0 ≤ bs.getD i 0 ∧ bs.getD i 0 < 256 := by
  rw [List.getD_eq_getElem?_getD, List.getElem?_eq_getElem hi]
  exact hb _ (List.getElem_mem hi)
theorem Rd.byte {w : World} {B : Nat} {A : Option Addr} {bs : List Int} (h : Rd w B A (bs.map (Value.int .u8))) {i : Nat} (hi : i < bs.length) : ∃ b off, A = some ⟨b, off, none⟩ ∧ b < B ∧ ∀ j, j < bs.length → w.cell? ⟨b, off + j, none⟩ = some (.int .u8 (bs.getD j 0)) := by
  rcases h with h | ⟨b, off, rfl, hb, hc⟩
  · have := congrArg List.length h; simp at this; rw [this] at hi; cases hi
  · refine ⟨b, off, rfl, hb, fun j hj => hc j _ ?_⟩
    rw [List.getElem?_map, List.getD_eq_getElem?_getD, List.getElem?_eq_getElem hj]
    rfl
theorem grown_of' {w w' : World} (h : Below w.heap.size w w') : w.grownBy w' none := ⟨h.os, h.tape, h.output, h.size, fun k hk _ => h.block k hk⟩
theorem row_on {w w' : World} {base : Nat} {e : TypeId} {z n : Nat} {v : Value} {xs : List Value} (h : w.ownsRow base e z v n xs) (hb : Below w.heap.size w w') : w'.ownsRow base e z v n xs :=
  h.kept (grown_of' hb) (by cases v.ownBlock <;> simp)
end Go.Proofs.YtolmecnjolfjgaaGreatDoor
namespace Go.Proofs.YtolmecnjolfjgaaGreatDoor
open Go.RowKit

end Go.Proofs.YtolmecnjolfjgaaGreatDoor
namespace Go.Proofs.YtolmecnjolfjgaaGreatDoor
open Go.RowKit

/-- The word, and the error's number. -/
def encW (i : Ins) : Int := if rgtB i then wordV i else 0
def encE (i : Ins) : Int := if rgtB i then 0 else 1
end Go.Proofs.YtolmecnjolfjgaaGreatDoor
