/- The document's words of a text. -/
import Derived.Test.YtolmecnjolfjgaaGreatDoorRows
import Derived.Test.YtolmecnjolfjgaaGreatDoorRdl
import Derived.Test.YtolmecnjolfjgaaGreatDoorOp5l
import Derived.WalkKit
import Derived.WalkLawsBesides
import Derived.Deep.QuietTactic
import Derived.BigQuiet
import Derived.WalkSmall
import Derived.WalkSpells
import Derived.Lib.Hide
import Derived.Below
import Derived.LoopTactic
import Derived.Deep.LoopGhost
import Derived.OwnWalk
import Derived.Laws.AppendOwn
set_option maxRecDepth 100000
namespace Go.Proofs.YtolmecnjolfjgaaGreatDoor
open Go.RowKit

theorem info_str : (Tryz.prog.info? 9).map (fun i => (i.zero, i.size, i.bytes)) = some (some (.string ByteArray.empty), 1, 16) := by kernel_rfl
def txs (O : List (List UInt8)) : List Value := O.map tx
def RetS (w : World) (O : List (List UInt8)) (e : Ending) (w' : World) : Prop := ∃ A cap, e = .returned (.slice A O.length cap) ∧ Rd w' w'.heap.size A (txs O) ∧ Below w.heap.size w w'
theorem RetS.of_own {w w' : World} {O : List (List UInt8)} {base : Nat} {e : TypeId} {n : Nat} {v : Value} (h : w'.ownsRow base e 1 v n (txs O)) (hb : Below w.heap.size w w') : RetS w O (.returned v) w' := by
  obtain ⟨A, c, rfl, hr⟩ := own_form h
  have hn : n = O.length := by have := h.1; unfold txs at this; rw [List.length_map] at this; omega
  subst hn
  exact ⟨A, c, rfl, hr, hb⟩
end Go.Proofs.YtolmecnjolfjgaaGreatDoor
