/- The last ones first: slices.Backward over entries and over stores, as the loop's body sees it. -/
import Derived.Test.YtoaonoflekcccaaDoorVm
import Derived.RangeFuncNested
import Derived.RangeFuncBound
import Derived.RangeFuncCalls
import Derived.RangeFuncLeaves
import Derived.Shelf.Abstract
import Derived.Shelf.RegionOpen
import Derived.WalkKit
import Derived.OwnWalkIn
import Derived.TacticsInMore
import Derived.LoopNIn
import Derived.LoopIn
import Derived.WalkMore
set_option maxRecDepth 100000
set_option linter.unusedVariables false
namespace Go.Proofs.YtoaonoflekcccaaDoor
open Go.RowKit Go.Shelf

attribute [local go_sem] Oper.semAt_some

theorem stepR_scope {P : Program} {b : Frame} {a : Act} {k : List Item} {cs : List Frame} {w : World} {c : Code} : step P (lone (b.atR a (.code (.scope c) :: k)) cs w) = .next (lone (b.atR a (.code c :: .inScope c :: k)) cs w) :=
  step_lone_go (by simp [stepG, stepG.exec, Frame.atR])
theorem stepR_inScope {P : Program} {b : Frame} {a : Act} {k : List Item} {cs : List Frame} {w : World} {c : Code} : step P (lone (b.atR a (.inScope c :: k)) cs w) = .next (lone (b.atR a k) cs w) :=
  step_lone_go (by simp [stepG, stepG.exec, Frame.atR])
/-- A scope through which the run goes without a goto, in a fence. -/
theorem wpIn_scope_straight {F : Fence} {n : Nat} {P : Program} {Q : Exit → Act → World → Prop} {a : Act} {w : World} {c : Code} (h : c.wpIn F n P (Exit.noGoto Q) a w) : (Code.scope c).wpIn F n P Q a w := by
  intro b k cs hro hb hr
  have h0 : (lone (b.atR a (.code (.scope c) :: k)) cs w).fenced P F := fenced_calm hb hr rfl
  obtain ⟨e, a₁, w₁, hq, harr⟩ := h b (.inScope c :: k) cs hro hb hr
  cases e with
  | normal => exact ⟨.normal, a₁, w₁, hq, .head h0 stepR_scope (StepsIn.trans harr (.one (fenced_calm hb hr rfl) stepR_inScope))⟩
  | exit id =>
    have hx : exitTo id (.inScope c :: k) = exitTo id k := by simp [exitTo]
    exact ⟨.exit id, a₁, w₁, hq, fun k' hk => .head h0 stepR_scope (harr.1 k' (by rw [hx]; exact hk)),
      fun hr' hk => let ⟨k₁, h1, h2⟩ := harr.2 hr' (by rw [hx]; exact hk); ⟨k₁, h1, .head h0 stepR_scope h2⟩⟩
  | goto l => exact hq.elim
  | ret => exact ⟨_, a₁, w₁, hq, .of_steps (.one h0 stepR_scope) harr⟩
  | panic ch => exact ⟨_, a₁, w₁, hq, .of_steps (.one h0 stepR_scope) harr⟩
  | outgrown => exact ⟨_, a₁, w₁, hq, .of_steps (.one h0 stepR_scope) harr⟩

/-! ### The order in which they come -/
def revF (L : Nat) : List (Fin L) := (List.finRange L).reverse
theorem revF_len (L : Nat) : (revF L).length = L := by simp [revF]
theorem revF_at (L k : Nat) (h : k < L) : (revF L)[k]'(by rw [revF_len]; exact h) = ⟨L - 1 - k, by omega⟩ := by simp [revF]
theorem revF_succ (L q : Nat) (h : q < L) : (revF L).take (L - (q + 1)) ++ [⟨q, h⟩] = (revF L).take (L - q) := by
  have e : L - q = L - (q + 1) + 1 := by omega
  rw [e, List.take_succ_eq_append_getElem (by rw [revF_len]; omega), revF_at L _ (by omega)]
  congr 2
  apply Fin.ext
  show q = L - 1 - (L - (q + 1))
  omega
theorem revF_all {L : Nat} (i : Fin L) : i ∈ revF L := by simp [revF]
/-- What has come ahead of one are just those behind it. -/
theorem revF_pre {L : Nat} {pre : List (Fin L)} {x i : Fin L} (h : pre ++ [x] <+: revF L) (hi : x < i) : i ∈ pre := by
  have hl : pre.length < L := by
    have := h.length_le
    rw [revF_len, List.length_append] at this
    simp at this
    omega
  have hx : (revF L)[pre.length]'(by rw [revF_len]; exact hl) = x := by
    have := h.getElem (i := pre.length) (by simp)
    rw [← this]
    simp
  rw [revF_at L _ hl] at hx
  have hv : L - 1 - pre.length = x.1 := congrArg Fin.val hx
  have hi2 : x.1 < i.1 := hi
  have h3 := i.2
  have e := h.getElem (i := L - 1 - i.1) (by simp; omega)
  rw [List.getElem_append_left (by omega), revF_at L _ (by omega)] at e
  have e2 : pre[L - 1 - i.1]'(by omega) = i := by rw [e]; apply Fin.ext; show L - 1 - (L - 1 - i.1) = i.1; omega
  rw [← e2]
  exact List.getElem_mem _


end Go.Proofs.YtoaonoflekcccaaDoor
