/- The contracts of both Right. -/
import Derived.Test.YtdhooabamoehiaaRows
import Derived.Test.YtdhooabamoehiaaPr
import Derived.WalkKit
import Derived.WalkLawsBesides
import Derived.Deep.QuietTactic
import Derived.BigQuiet
import Derived.WalkSmall
import Derived.WalkSpells
import Derived.Lib.Hide
import Derived.Below
import Derived.Deep.Cut
namespace Go.Proofs.Ytdhooabamoehiaa
open Go.RowKit

def rgB (c u : Int) : Bool := decide (0 ≤ c ∧ c ≤ 2 ∧ 0 ≤ u ∧ u ≤ 5)
theorem rgB_no {c u : Int} (h : ¬ (0 ≤ c ∧ c ≤ 2 ∧ 0 ≤ u ∧ u ≤ 5)) : rgB c u = false := by unfold rgB; exact decide_eq_false h
theorem rgB_yes {c u : Int} (h : 0 ≤ c ∧ c ≤ 2 ∧ 0 ≤ u ∧ u ≤ 5) : rgB c u = true := by unfold rgB; exact decide_eq_true h

theorem right_any (c u : Int) (a : Nat) (w : World) :
    Calls Try.prog 13 #[.agg #[.int .i64 c, .int .i64 u, .float .f64 a]] w fun e w' => e = .returned (.bool (rgB c u)) ∧ Below w.heap.size w w' := by
  have key : ¬ 0 ≤ c ∨ (0 ≤ c ∧ ¬ c ≤ 2) ∨ (0 ≤ c ∧ c ≤ 2 ∧ ¬ 0 ≤ u) ∨ (0 ≤ c ∧ c ≤ 2 ∧ 0 ≤ u ∧ ¬ u ≤ 5) ∨ (0 ≤ c ∧ c ≤ 2 ∧ 0 ≤ u ∧ u ≤ 5) := by omega
  rcases key with h1 | ⟨h1, h2⟩ | ⟨h1, h2, h3⟩ | ⟨h1, h2, h3, h4⟩ | h
  · have HB := Lib.hid (rgB_no (c := c) (u := u) (by omega))
    go_enter Try.func13, Try.ntmps13
    go_wp2
    go_ret
    exact ⟨ret_bool HB.out.symm, (Below.refl _ _).alloc (Nat.le_refl _) _⟩
  · have HB := Lib.hid (rgB_no (c := c) (u := u) (by omega))
    go_enter Try.func13, Try.ntmps13
    go_wp2
    go_ret
    exact ⟨ret_bool HB.out.symm, (Below.refl _ _).alloc (Nat.le_refl _) _⟩
  · have HB := Lib.hid (rgB_no (c := c) (u := u) (by omega))
    go_enter Try.func13, Try.ntmps13
    go_wp2
    go_ret
    exact ⟨ret_bool HB.out.symm, (Below.refl _ _).alloc (Nat.le_refl _) _⟩
  · have HB := Lib.hid (rgB_no (c := c) (u := u) (by omega))
    have h6 : ¬ u < 6 := by omega
    have h7 : decide (u < 6) = false := by simpa using h6
    have h8 : decide (u ≤ 5) = false := by simpa using h4
    go_enter Try.func13, Try.ntmps13
    go_wp2
    go_ret
    exact ⟨ret_bool HB.out.symm, (Below.refl _ _).alloc (Nat.le_refl _) _⟩
  · have HB := Lib.hid (rgB_yes h)
    obtain ⟨h1, h2, h3, h4⟩ := h
    have h5 : c < 3 := by omega
    have h6 : u < 6 := by omega
    go_enter Try.func13, Try.ntmps13
    go_wp2
    go_ret
    exact ⟨ret_bool HB.out.symm, (Below.refl _ _).alloc (Nat.le_refl _) _⟩

theorem rright_any (c u : Int) (a : Nat) (w : World) :
    Calls Try.prog 14 #[.agg #[.int .i64 c, .int .i64 u, .float .f64 a]] w fun e w' => e = .returned (.bool (rgB c u)) ∧ Below w.heap.size w w' := by
  have key : ¬ 0 ≤ c ∨ (0 ≤ c ∧ ¬ c ≤ 2) ∨ (0 ≤ c ∧ c ≤ 2 ∧ ¬ 0 ≤ u) ∨ (0 ≤ c ∧ c ≤ 2 ∧ 0 ≤ u ∧ ¬ u ≤ 5) ∨ (0 ≤ c ∧ c ≤ 2 ∧ 0 ≤ u ∧ u ≤ 5) := by omega
  rcases key with h1 | ⟨h1, h2⟩ | ⟨h1, h2, h3⟩ | ⟨h1, h2, h3, h4⟩ | h
  · have HB := Lib.hid (rgB_no (c := c) (u := u) (by omega))
    go_enter Try.func14, Try.ntmps14
    go_wp2
    go_ret
    exact ⟨ret_bool HB.out.symm, (Below.refl _ _).alloc (Nat.le_refl _) _⟩
  · have HB := Lib.hid (rgB_no (c := c) (u := u) (by omega))
    go_enter Try.func14, Try.ntmps14
    go_wp2
    go_ret
    exact ⟨ret_bool HB.out.symm, (Below.refl _ _).alloc (Nat.le_refl _) _⟩
  · have HB := Lib.hid (rgB_no (c := c) (u := u) (by omega))
    go_enter Try.func14, Try.ntmps14
    go_wp2
    go_ret
    exact ⟨ret_bool HB.out.symm, (Below.refl _ _).alloc (Nat.le_refl _) _⟩
  · have HB := Lib.hid (rgB_no (c := c) (u := u) (by omega))
    have h6 : ¬ u < 6 := by omega
    have h7 : decide (u < 6) = false := by simpa using h6
    have h8 : decide (u ≤ 5) = false := by simpa using h4
    go_enter Try.func14, Try.ntmps14
    go_wp2
    go_ret
    exact ⟨ret_bool HB.out.symm, (Below.refl _ _).alloc (Nat.le_refl _) _⟩
  · have HB := Lib.hid (rgB_yes h)
    obtain ⟨h1, h2, h3, h4⟩ := h
    have h5 : c < 3 := by omega
    have h6 : u < 6 := by omega
    go_enter Try.func14, Try.ntmps14
    go_wp2
    go_ret
    exact ⟨ret_bool HB.out.symm, (Below.refl _ _).alloc (Nat.le_refl _) _⟩
end Go.Proofs.Ytdhooabamoehiaa
