/- What follows of results: plain. Nothing here speaks of a program. -/
import Derived.Test.YtoifkdjalddhkaaDoorRv
import Derived.Test.YtoifkdjalddhkaaDoorRn
namespace Go.Proofs.YtoifkdjalddhkaaDoor
open Go.RowKit

def nuL : List Int := [22, 23, 24, 25, 26, 27, 28, 29, 30, 31, 32, 33, 34]
def paL : List Int := [35, 38, 39, 40, 43, 44, 37, 41, 42, 45, 47, 48, 49]
/-- An immediate's operation is the pair's with it. -/
theorem res_pairs (k : Nat) (hk : k < 13) (imm a b : Int) : resV (nuL.getD k 0) imm 0 a b = resV (paL.getD k 0) 0 0 a (IntKind.u64.wrap imm) := by
  have h : ∀ k : Fin 13, (22 ≤ nuL.getD k.val 0 ∧ nuL.getD k.val 0 ≤ 34) ∧ (35 ≤ paL.getD k.val 0 ∧ paL.getD k.val 0 ≤ 49) ∧ numP (nuL.getD k.val 0) = paL.getD k.val 0 := by decide
  obtain ⟨h1, h2, h3⟩ := h ⟨k, hk⟩
  rw [res_n _ h1 h3, res_p h2]
theorem lowB_not (a b : Int) : lowB b a = (!lowB a b && !decide (sgn a = sgn b)) := by
  unfold lowB
  rw [Bool.eq_iff_iff]
  simp
  omega
/-- Of a branch and its opposite just one is taken. -/
theorem tak_pairs (a b : Int) : takV 6 a b = !takV 5 a b ∧ takV 8 a b = !takV 7 a b ∧ takV 10 a b = !takV 9 a b := by
  refine ⟨?_, ?_, ?_⟩ <;> simp [takV, bne]
/-- SUB turns ADD back. -/
theorem sub_add (a b : Int) (ha : U64 a) : resV 36 0 0 (resV 35 0 0 a b) b = a := by
  rw [res_p (by decide), res_p (by decide), p_36, p_35]
  unfold subV addV u64
  unfold U64 at ha
  omega
theorem add_U (imm pc a b : Int) : U64 (resV 35 imm pc a b) := by
  rw [res_p (by decide), p_35]
  exact u64_U _
end Go.Proofs.YtoifkdjalddhkaaDoor
