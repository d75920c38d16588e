/- What is said of the document's Is at one operation. -/
import Derived.Test.YtbnacdhhacafkaaDoorRows
import Derived.Test.YtbnacdhhacafkaaDoorSz
import Derived.Test.YtbnacdhhacafkaaDoorTd
import Derived.WalkKit
import Derived.WalkLawsBesides
import Derived.Deep.QuietTactic
import Derived.BigQuiet
import Derived.WalkSmall
import Derived.WalkSpells
import Derived.Lib.Hide
import Derived.Below
namespace Go.Proofs.YtbnacdhhacafkaaDoor
open Go.RowKit

def IsAt (op : Int) : Prop := ∀ (v : Int) (w : World), 0 ≤ v → v < 4294967296 → Calls Tryd.prog 28 #[.int .u32 v, .int .i64 op] w fun e w' => e = .returned (.bool (iswB v op)) ∧ BW w w'
theorem isw_of {v op : Int} {c : Bool} (h : c = true ↔ Isw v op) : c = iswB v op := by unfold iswB; rw [Bool.eq_iff_iff, h, decide_eq_true_eq]
end Go.Proofs.YtbnacdhhacafkaaDoor
