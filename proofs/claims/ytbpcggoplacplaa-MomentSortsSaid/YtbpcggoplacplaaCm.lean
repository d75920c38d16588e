/- The contracts of compare, and of the closure that the sort is handed. -/
import Derived.Test.YtbpcggoplacplaaRows
import Derived.Test.YtbpcggoplacplaaFl
import Derived.Test.YtbpcggoplacplaaPr
import Derived.Test.YtbpcggoplacplaaLs
import Derived.Test.YtbpcggoplacplaaMem
import Derived.Test.YtbpcggoplacplaaSm
import Derived.WalkKit
import Derived.WalkLawsBesides
import Derived.Deep.Draws
import Derived.Deep.QuietTactic
import Derived.BigQuiet
import Derived.WalkSmall
import Derived.Lib.Hide
import Derived.Outline
namespace Go.Proofs.Ytbpcggoplacplaa
open Go.RowKit

def cmpV (a b : Nat) : Int := if lessB a b then -1 else if lessB b a then 1 else 0
theorem compare_any (a b : Nat) (ha : a < 18446744073709551616) (hb : b < 18446744073709551616) (w : World) :
    Calls Try.prog 32 #[.float .f64 a, .float .f64 b] w fun e w' => e = .returned (.int .i64 (cmpV a b)) ∧ w' = w := by
  have hl : lessB a b = true → lessB b a = false := by unfold lessB; simp; omega
  cases h1 : lessB a b
  · cases h2 : lessB b a
    all_goals
      have HV : Hid (cmpV a b = if lessB b a then 1 else 0) := by show _ = _; unfold cmpV; rw [h1]; rfl
      rw [h2] at HV
      clear hl
      go_enter Try.func32, Try.ntmps32
      go_wp2_with (first
        | (go_at_call 17; refine (less_any _ _ (by assumption) (by assumption) _).mono ?_; rintro e w' ⟨rfl, rfl⟩))
      go_ret
      exact ⟨ret_int HV.out.symm, rfl⟩
  · have HV : Hid (cmpV a b = -1) := by show _ = _; unfold cmpV; rw [h1]; rfl
    clear hl
    go_enter Try.func32, Try.ntmps32
    go_wp2_with (first
      | (go_at_call 17; refine (less_any _ _ (by assumption) (by assumption) _).mono ?_; rintro e w' ⟨rfl, rfl⟩))
    go_ret
    exact ⟨ret_int HV.out.symm, rfl⟩

/-- All are words of 64 bits. -/
def Words (l : List Nat) : Prop := ∀ b ∈ l, b < 18446744073709551616
def cellsF (l : List Nat) : List Value := l.map (Value.float .f64)
/-- The key of a place of l. -/
def kyL (l : List Nat) (x : Int) : Int := rk (l.getD x.toNat 0)
def cfL (l : List Nat) (x y : Int) : Int := cmpV (l.getD x.toNat 0) (l.getD y.toNat 0)
theorem cfL_lt (l : List Nat) (x y : Int) : decide (cfL l x y < 0) = ltI (kyL l) x y := by
  unfold cfL cmpV ltI kyL lessB
  generalize rk (l.getD x.toNat 0) = u
  generalize rk (l.getD y.toNat 0) = v
  by_cases h : u < v
  · simp [h]
  · by_cases g : v < u
    · simp [h, g]
    · simp [h, g]

set_option maxRecDepth 100000 in
theorem closure_any (A : Option Addr) (cap B : Nat) (l : List Nat) (x y : Int) (w : World) (hw : Words l) (_ : l.length ≤ 9223372036854775807) (hbox : w.cell? ⟨B, 0, none⟩ = some (.slice A l.length cap)) (hr : Rd w w.heap.size A (cellsF l))
    (hx0 : 0 ≤ x) (hx : x < l.length) (hy0 : 0 ≤ y) (hy : y < l.length) :
    Calls Try.prog 31 #[.int .i64 x, .int .i64 y, .pointer (some ⟨B, 0, none⟩)] w fun e w' => e = .returned (.int .i64 (cfL l x y)) ∧ ∃ n, w' = w.drewN n := by
  obtain ⟨b, off, rfl, _, hcx⟩ := hr.at (i := x.toNat) (by unfold cellsF; rw [List.length_map]; omega)
  obtain ⟨b', off', e', _, hcy⟩ := hr.at (i := y.toNat) (by unfold cellsF; rw [List.length_map]; omega)
  cases e'
  simp only [cellsF, List.getElem_map] at hcx hcy
  have gx : l.getD x.toNat 0 = l[x.toNat]'(by omega) := by rw [List.getD_eq_getElem?_getD, List.getElem?_eq_getElem (by omega)]; rfl
  have gy : l.getD y.toNat 0 = l[y.toNat]'(by omega) := by rw [List.getD_eq_getElem?_getD, List.getElem?_eq_getElem (by omega)]; rfl
  have bx := hw _ (List.getElem_mem (show x.toNat < l.length by omega))
  have bY := hw _ (List.getElem_mem (show y.toNat < l.length by omega))
  have HV : Hid (cfL l x y = cmpV (l[x.toNat]'(by omega)) (l[y.toNat]'(by omega))) := by show _ = _; unfold cfL; rw [gx, gy]
  generalize (l[x.toNat]'(by omega)) = u at *
  generalize (l[y.toNat]'(by omega)) = v at *
  clear gx gy hr
  go_enter Try.func31, Try.ntmps31
  go_wp2_with fail
  go_quiet (first | (go_at_call 32; refine Calls.quiet_of_same (compare_any _ _ bx bY _)))
  go_wp2
  go_ret
  exact ⟨ret_int HV.out.symm, _, rfl⟩
end Go.Proofs.Ytbpcggoplacplaa
