/- The contracts of Overlap and Aligned, the program's and the document's: each is one test of numbers. -/
import Derived.Test.YtoahejjeihmiiaaRows
import Derived.Test.YtoahejjeihmiiaaBa
import Derived.WalkKit
import Derived.WalkLawsBesides
import Derived.Deep.LoopGhost
import Derived.Lib.Hide
set_option maxRecDepth 100000
namespace Go.Proofs.Ytoahejjeihmiiaa
open Go.RowKit

/-- There may be n bytes from a on. -/
def rng (a n : Int) : Bool := decide (1 ≤ n ∧ n ≤ 8 ∧ 0 ≤ a ∧ a ≤ 1099511627776)
theorem rng_yes {a n : Int} (h : 1 ≤ n ∧ n ≤ 8 ∧ 0 ≤ a ∧ a ≤ 1099511627776) : rng a n = true := decide_eq_true h
theorem rng_no {a n : Int} (h : ¬ (1 ≤ n ∧ n ≤ 8 ∧ 0 ≤ a ∧ a ≤ 1099511627776)) : rng a n = false := decide_eq_false h
/-- Two ranges have a byte in both. -/
def ovl (a n b m : Int) : Bool := rng a n && rng b m && decide (a < b + m ∧ b < a + n)
theorem ovl_comm (a n b m : Int) : ovl a n b m = ovl b m a n := by
  unfold ovl
  rw [Bool.and_comm (rng a n)]
  congr 1
  exact decide_eq_decide.2 ⟨fun h => ⟨h.2, h.1⟩, fun h => ⟨h.2, h.1⟩⟩


theorem ovl_mk {a n b m : Int} (h1 : rng a n = true) (h2 : rng b m = true) (c : Bool) (h : c = true ↔ (a < b + m ∧ b < a + n)) : ovl a n b m = c := by
  unfold ovl
  rw [h1, h2, Bool.true_and, Bool.true_and]
  cases c
  · exact decide_eq_false fun k => by have := h.2 k; cases this
  · exact decide_eq_true (h.1 rfl)
theorem rng_out {a n : Int} (h : rng a n = true) : 1 ≤ n ∧ n ≤ 8 ∧ 0 ≤ a ∧ a ≤ 1099511627776 := of_decide_eq_true h

theorem ovl_eq (a n b m : Int) (c : Bool) (h : c = true ↔ ((1 ≤ n ∧ n ≤ 8 ∧ 0 ≤ a ∧ a ≤ 1099511627776) ∧ (1 ≤ m ∧ m ≤ 8 ∧ 0 ≤ b ∧ b ≤ 1099511627776) ∧ a < b + m ∧ b < a + n)) : c = ovl a n b m := by
  unfold ovl rng
  rw [Bool.eq_iff_iff, h]
  simp only [Bool.and_eq_true, decide_eq_true_eq, and_assoc]

/-- An address is a multiple of a size. -/
def alg (a n : Int) : Bool := decide ((n = 1 ∨ n = 2 ∨ n = 4 ∨ n = 8) ∧ 0 ≤ a ∧ a % n = 0)
theorem alg_eq (a n : Int) (c : Bool) (h : c = true ↔ ((n = 1 ∨ n = 2 ∨ n = 4 ∨ n = 8) ∧ 0 ≤ a ∧ a % n = 0)) : c = alg a n := by
  unfold alg
  rw [Bool.eq_iff_iff, h, decide_eq_true_eq]

end Go.Proofs.Ytoahejjeihmiiaa
