/- The document's words of a text. -/
import Derived.Test.YtolmecnjolfjgaaGreatDoorRows
import Derived.Test.YtolmecnjolfjgaaGreatDoorRd
import Derived.Test.YtolmecnjolfjgaaGreatDoorRt0
import Derived.Test.YtolmecnjolfjgaaGreatDoorOp5
import Derived.WalkKit
import Derived.WalkLawsBesides
import Derived.Deep.QuietTactic
import Derived.BigQuiet
import Derived.WalkSmall
import Derived.WalkSpells
import Derived.Lib.Hide
import Derived.Below
import Derived.LoopTactic
import Derived.Deep.LoopGhost
import Derived.OwnWalk
import Derived.Laws.AppendOwn
set_option maxRecDepth 100000
namespace Go.Proofs.YtolmecnjolfjgaaGreatDoor
open Go.RowKit

theorem info_str : (Tryz.prog.info? 9).map (fun i => (i.zero, i.size, i.bytes)) = some (some (.string ByteArray.empty), 1, 16) := by kernel_rfl
def txs (O : List (List UInt8)) : List Value := O.map tx
def RetS (w : World) (O : List (List UInt8)) (e : Ending) (w' : World) : Prop := ∃ A cap, e = .returned (.slice A O.length cap) ∧ Rd w' w'.heap.size A (txs O) ∧ Below w.heap.size w w'
theorem RetS.of_own {w w' : World} {O : List (List UInt8)} {base : Nat} {e : TypeId} {n : Nat} {v : Value} (h : w'.ownsRow base e 1 v n (txs O)) (hb : Below w.heap.size w w') : RetS w O (.returned v) w' := by
  obtain ⟨A, c, rfl, hr⟩ := own_form h
  have hn : n = O.length := by have := h.1; unfold txs at this; rw [List.length_map] at this; omega
  subst hn
  exact ⟨A, c, rfl, hr, hb⟩
theorem extract_one (q : ByteArray) (k : Nat) (h : k < q.size) : q.extract k (k + 1) = bs [q[k]] := by
  apply ByteArray.ext
  rw [ByteArray.data_extract]
  apply Array.ext'
  rw [Array.toList_extract, List.extract_eq_take_drop, Nat.add_sub_cancel_left]
  rw [List.take_one, List.head?_drop, List.getElem?_eq_getElem (by rw [Array.length_toList]; exact h)]
  rfl
theorem drop_cons (q : ByteArray) (k : Nat) (h : k < q.size) : q.data.toList.drop k = q[k] :: q.data.toList.drop (k + 1) := by
  rw [List.drop_eq_getElem_cons (by rw [Array.length_toList]; exact h)]
  rfl
theorem isW_of (c : UInt8) (h : isW c = true) : (97 ≤ (c.toNat : Int) ∧ (c.toNat : Int) ≤ 122) ∨ (48 ≤ (c.toNat : Int) ∧ (c.toNat : Int) ≤ 57) ∨ (c.toNat : Int) = 46 ∨ (c.toNat : Int) = 45 := by
  have := of_decide_eq_true h
  rcases this with h | h | h | h
  · exact .inl ⟨by omega, by omega⟩
  · exact .inr (.inl ⟨by omega, by omega⟩)
  · exact .inr (.inr (.inl (by rw [h]; rfl)))
  · exact .inr (.inr (.inr (by rw [h]; rfl)))
theorem isW_not (c : UInt8) (h : isW c = false) : ((c.toNat : Int) < 97 ∨ 122 < (c.toNat : Int)) ∧ ((c.toNat : Int) < 48 ∨ 57 < (c.toNat : Int)) ∧ ((c.toNat : Int) == 46) = false ∧ ((c.toNat : Int) == 45) = false := by
  have h := of_decide_eq_false h
  refine ⟨by omega, by omega, ?_, ?_⟩
  · rw [beq_eq_false_iff_ne]; intro e; exact h (.inr (.inr (.inl (UInt8.toNat_inj.1 (show _ = 46 by omega)))))
  · rw [beq_eq_false_iff_ne]; intro e; exact h (.inr (.inr (.inr (UInt8.toNat_inj.1 (show _ = 45 by omega)))))
end Go.Proofs.YtolmecnjolfjgaaGreatDoor
