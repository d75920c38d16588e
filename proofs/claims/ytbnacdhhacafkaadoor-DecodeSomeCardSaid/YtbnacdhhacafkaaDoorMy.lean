/- The contract of the document's May. -/
import Derived.Test.YtbnacdhhacafkaaDoorRows
import Derived.Test.YtbnacdhhacafkaaDoorBt
import Derived.WalkKit
import Derived.WalkLawsBesides
import Derived.Deep.QuietTactic
import Derived.BigQuiet
import Derived.WalkSmall
import Derived.WalkSpells
import Derived.Lib.Hide
namespace Go.Proofs.YtbnacdhhacafkaaDoor
open Go.RowKit

/-- May an immediate be a format's. -/
def May (f x : Int) : Prop :=
  ((f = 1 ∨ f = 2) ∧ -2048 ≤ x ∧ x ≤ 2047) ∨ (f = 3 ∧ -4096 ≤ x ∧ x ≤ 4095 ∧ x % 2 = 0) ∨ (f = 4 ∧ -2147483648 ≤ x ∧ x ≤ 2147483647 ∧ x % 4096 = 0) ∨ (f = 5 ∧ -1048576 ≤ x ∧ x ≤ 1048575 ∧ x % 2 = 0)
instance (f x : Int) : Decidable (May f x) := by unfold May; infer_instance
def mayB (f x : Int) : Bool := decide (May f x)
theorem mayB_eq {f x : Int} {c : Bool} (h : c = true ↔ May f x) : c = mayB f x := by
  unfold mayB; rw [Bool.eq_iff_iff, h, decide_eq_true_eq]
theorem tmod_zero (x : Int) (m : Int) : (x.tmod m == 0) = decide (x % m = 0) := by
  rw [Bool.eq_iff_iff, beq_iff_eq, decide_eq_true_eq, ← Int.dvd_iff_tmod_eq_zero, Int.dvd_iff_emod_eq_zero]

end Go.Proofs.YtbnacdhhacafkaaDoor
