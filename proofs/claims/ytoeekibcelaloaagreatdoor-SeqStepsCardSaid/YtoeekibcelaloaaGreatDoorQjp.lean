/- Of stage 11. -/
import Derived.Test.YtoeekibcelaloaaGreatDoorQhp
set_option linter.unusedVariables false
set_option maxRecDepth 100000
namespace Go.Proofs.YtoeekibcelaloaaGreatDoor
open Go.RowKit
section
variable {P : Program} {ops : Array Oper} {Q : Exit → Act → World → Prop} {md : Region.Mode} {S : World → Prop} {fuel : Nat} {listed : Array Bool} {a : Act} {w : World}
theorem Zn0 {i : Nat} {oi : Oper} {K : Act → World → Prop} {f : FuncId} {vals : Array Value} {R : Ending → World → Prop} (hi : ops[i]? = some oi) (hg : oi.guard = none)
    (hx : (execOp a.eval oi).run P w = .ok (.enter f vals) w) (hc : Calls P f vals w R) (hk : ∀ e w', R e w' → ∃ v, e = .returned v ∧ K (a.put oi.dst v) w') : wpOp P ops Q i K a w := by
  unfold wpOp
  simp only [hi, zf2 hg, if_true]
  refine .inl ?_
  unfold Oper.wp
  rw [hx, Oper.upon_enter]
  refine hc.mono fun e w' he => ?_
  obtain ⟨v, rfl, h1⟩ := hk e w' he
  exact h1
theorem zf6 {i : Nat} (hr : Region.ready md ops listed = [i]) (hi : wpOp P ops Q i (fun a' w' => S w' ∧ wpAnyH P md ops Q S fuel (listed.setIfInBounds i true) a' w') a w) : wpAnyH P md ops Q S (fuel + 1) listed a w :=
  wpAnyH_all hr (by simp) fun m hm => by
    obtain rfl : m = i := by simpa using hm
    exact hi
theorem ze9 {i : Nat} {oi : Oper} {K : Act → World → Prop} {g n : Nat} {t : TypeId} {ys : Array Value} (hi : ops[i]? = some oi) (gi : oi.guard = none) (di : oi.dst = none) (ty : TypeId) (x y : Operand) (ho : oi.op = .store ty x y) (hx : a.eval x = .pointer (some ⟨g, 0, none⟩)) (hy : a.eval y = .agg ys)
    (hz : (P.info? ty).map (·.size) = some ys.size) (hn : ys.size = n) (o1 : ∀ v ∈ ys.toList, v.oneCell' = true) (hh : Has n t g w) (h : ∀ w', Blk ys t g w' → w.grownBy w' (some g) → K a w') : wpOp P ops Q i K a w := by
  have put : ∀ (b : Act) (v : Value), b.put none v = b := fun _ _ => rfl
  unfold wpOp
  simp only [hi, zf2 gi, if_true]
  refine .inl ?_
  obtain ⟨w1, e1, b1, k1⟩ := hh.put (P := P) ys hn o1 hz
  refine zo5 ho hx hy e1 ?_
  rw [di, put]
  exact h _ b1 k1
end
section
variable {W w w' : World} {h h' f : Hrt} {g k : Nat} {v : Value} {l : List Dn}
end
end Go.Proofs.YtoeekibcelaloaaGreatDoor
