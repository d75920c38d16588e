/- The contract of the document's May. -/
import Derived.Test.YtfgeojajbkggnaaDoorRows
import Derived.Test.YtfgeojajbkggnaaDoorBt
import Derived.WalkKit
import Derived.WalkLawsBesides
import Derived.Deep.QuietTactic
import Derived.BigQuiet
import Derived.WalkSmall
import Derived.WalkSpells
import Derived.Lib.Hide
namespace Go.Proofs.YtfgeojajbkggnaaDoor
open Go.RowKit

/-- May an immediate be a format's. -/
def May (f x : Int) : Prop :=
  ((f = 1 ∨ f = 2) ∧ -2048 ≤ x ∧ x ≤ 2047) ∨ (f = 3 ∧ -4096 ≤ x ∧ x ≤ 4095 ∧ x % 2 = 0) ∨ (f = 4 ∧ -2147483648 ≤ x ∧ x ≤ 2147483647 ∧ x % 4096 = 0) ∨ (f = 5 ∧ -1048576 ≤ x ∧ x ≤ 1048575 ∧ x % 2 = 0)
instance (f x : Int) : Decidable (May f x) := by unfold May; infer_instance
def mayB (f x : Int) : Bool := decide (May f x)
theorem mayB_eq {f x : Int} {c : Bool} (h : c = true ↔ May f x) : c = mayB f x := by
  unfold mayB; rw [Bool.eq_iff_iff, h, decide_eq_true_eq]
theorem tmod_zero (x : Int) (m : Int) : (x.tmod m == 0) = decide (x % m = 0) := by
  rw [Bool.eq_iff_iff, beq_iff_eq, decide_eq_true_eq, ← Int.dvd_iff_tmod_eq_zero, Int.dvd_iff_emod_eq_zero]

theorem may_any (f x : Int) (w : World) :
    Calls Tryd.prog 8 #[.int .i64 f, .int .i64 x] w fun e w' => e = .returned (.bool (mayB f x)) ∧ w = w' := by
  have m2 := tmod_zero x 2
  have m4 := tmod_zero x 4096
  have hf : f = 1 ∨ f = 2 ∨ f = 3 ∨ f = 4 ∨ f = 5 ∨ ¬ (1 ≤ f ∧ f ≤ 5) := by omega
  rcases hf with hf | hf | hf | hf | hf | hf
  all_goals
    first | (have b1 : (f == 1) = true := by simp; omega) | (have b1 : (f == 1) = false := by simp; omega)
    first | (have b2 : (f == 2) = true := by simp; omega) | (have b2 : (f == 2) = false := by simp; omega)
    first | (have b3 : (f == 3) = true := by simp; omega) | (have b3 : (f == 3) = false := by simp; omega)
    first | (have b4 : (f == 4) = true := by simp; omega) | (have b4 : (f == 4) = false := by simp; omega)
    first | (have b5 : (f == 5) = true := by simp; omega) | (have b5 : (f == 5) = false := by simp; omega)
    have HF := Lib.hid hf
    clear hf
    go_enter Tryd.func8, Tryd.ntmps8
    go_wp2
    all_goals go_ret
    all_goals refine ⟨ret_bool (mayB_eq ?_), rfl⟩
    all_goals have hf := HF.out
    all_goals clear m2 m4 b1 b2 b3 b4 b5
    all_goals unfold May
    all_goals simp
    all_goals omega
end Go.Proofs.YtfgeojajbkggnaaDoor
