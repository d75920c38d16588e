/- Texts' pieces: how long they are, and put together. -/
import Derived.Test.YtolmecnjolfjgaaGreatDoorRows
import Derived.Test.YtolmecnjolfjgaaGreatDoorRd
import Derived.Test.YtolmecnjolfjgaaGreatDoorTx
import Derived.Test.YtolmecnjolfjgaaGreatDoorJn
import Derived.WalkKit
import Derived.WalkLawsBesides
import Derived.Deep.QuietTactic
import Derived.BigQuiet
import Derived.WalkSmall
import Derived.WalkSpells
import Derived.Lib.Hide
import Derived.Below
import Derived.LoopTactic
import Derived.Outline
import Derived.Deep.RegionHeld3
import Derived.Deep.DeepCutAuto
set_option maxRecDepth 100000
namespace Go.Proofs.YtolmecnjolfjgaaGreatDoor
open Go.RowKit

theorem cat (x y : List UInt8) (hx : x.length ≤ 1000) (hy : y.length ≤ 1000) (w : World) : (Op.stringOp .add (bs x) (bs y)).run Tryz.prog w = .ok (.string (bs (x ++ y))) w :=
  run_string_add_lists w x y (by omega) (by omega)
theorem nmO_len (op : Int) : (nmO op).length ≤ 9 := by
  unfold nmO
  split
  · have hall : ∀ k : Fin 75, (nmL.getD k.val []).length ≤ 9 := by decide +kernel
    exact hall ⟨op.toNat - 1, by omega⟩
  · simp
theorem digI_len {n : Int} (h : I64 n) : (digI n).length ≤ 20 := by
  unfold I64 at h
  unfold digI
  split
  · have := digU_len (m := n.natAbs) (by omega)
    simp; omega
  · have := digU_len (m := n.natAbs) (by omega)
    omega
theorem regT_len {r : Int} (h : 0 ≤ r ∧ r ≤ 31) : (regT r).length ≤ 21 := by
  have := digI_len (n := r) (by unfold I64; omega)
  unfold regT
  simp; omega
theorem setT_len {n : Int} (h : 0 ≤ n ∧ n < 16) : (setT n).length ≤ 4 := by
  have hall : ∀ k : Fin 16, (setT (k.val : Int)).length ≤ 4 := by decide +kernel
  have := hall ⟨n.toNat, by omega⟩
  rw [show ((n.toNat : Nat) : Int) = n by omega] at this
  exact this
theorem Jn.bw' {W0 w : World} {i : Ins} {g : Nat} (h : Jn W0 i g w) : BW W0 w := h.1
end Go.Proofs.YtolmecnjolfjgaaGreatDoor
