/- The program's operation, Opcode, format and immediate, over the tables that the code lays. -/
import Derived.Test.YtdpbiboldmoadaaDoorRows
import Derived.Test.YtdpbiboldmoadaaDoorCwx
import Derived.Test.YtdpbiboldmoadaaDoorFg
import Derived.WalkKit
import Derived.WalkLawsBesides
import Derived.Deep.QuietTactic
import Derived.BigQuiet
import Derived.WalkSmall
import Derived.WalkSpells
import Derived.Lib.Hide
import Derived.Below
import Derived.Deep.Cut
set_option maxRecDepth 100000
namespace Go.Proofs.YtdpbiboldmoadaaDoor
open Go.RowKit

/-- The format of an opcode's immediates. -/
def frm (q : Int) : Int := if q = 55 ∨ q = 23 then 4 else if q = 111 then 5 else if q = 103 ∨ q = 3 ∨ q = 19 ∨ q = 27 then 1 else if q = 99 then 3 else if q = 35 then 2 else 0
theorem frm_fm : ∀ k : Fin 75, shV ((k.val : Int) + 1) = 0 → frm (ocV ((k.val : Int) + 1)) = fmV ((k.val : Int) + 1) := by decide
theorem sh_six : ∀ k : Fin 75, (shV ((k.val : Int) + 1) = 6 ∧ ((k.val : Int) + 1 = 28 ∨ (k.val : Int) + 1 = 29 ∨ (k.val : Int) + 1 = 30)) ∨ (shV ((k.val : Int) + 1) = 5 ∧ ((k.val : Int) + 1 = 32 ∨ (k.val : Int) + 1 = 33 ∨ (k.val : Int) + 1 = 34)) ∨
    (shV ((k.val : Int) + 1) = 0 ∧ (k.val : Int) + 1 ≠ 28 ∧ (k.val : Int) + 1 ≠ 29 ∧ (k.val : Int) + 1 ≠ 30 ∧ (k.val : Int) + 1 ≠ 32 ∧ (k.val : Int) + 1 ≠ 33 ∧ (k.val : Int) + 1 ≠ 34) := by decide
def immV (v op : Int) : Int := if 0 < fmV op then getK (fmV op) v 32 else if shV op = 6 then v / 1048576 % 64 else if shV op = 5 then v / 1048576 % 32 else 0
theorem fm_range : ∀ k : Fin 75, 0 ≤ fmV ((k.val : Int) + 1) ∧ (shV ((k.val : Int) + 1) ≠ 0 → fmV ((k.val : Int) + 1) = 0) := by decide
theorem getK_zero (v : Int) : getK 0 v 32 = 0 := getK_no (by omega) v
theorem oc_cases : ∀ k : Fin 75, ((k.val : Int) + 1 = 1 ∨ (k.val : Int) + 1 = 2 ∨ (k.val : Int) + 1 = 3 ∨ (k.val : Int) + 1 = 4 ∨ (k.val : Int) + 1 = 31 ∨ (k.val : Int) + 1 = 32 ∨ (k.val : Int) + 1 = 33 ∨ (k.val : Int) + 1 = 34 ∨ (k.val : Int) + 1 = 45 ∨ (k.val : Int) + 1 = 46 ∨ (k.val : Int) + 1 = 47 ∨ (k.val : Int) + 1 = 48 ∨ (k.val : Int) + 1 = 49) ∨ soL.getD (srt ((k.val : Int) + 1)).toNat 0 = ocV ((k.val : Int) + 1) := by decide
end Go.Proofs.YtdpbiboldmoadaaDoor
