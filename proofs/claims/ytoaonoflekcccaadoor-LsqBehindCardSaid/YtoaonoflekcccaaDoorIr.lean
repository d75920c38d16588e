/- A region that draws its order, inside a round over a function: walked as outside of it (hk_*, hp_*). Of no program. -/
import Derived.Test.YtoaonoflekcccaaDoorHk
import Derived.RangeFuncCalls
import Derived.RangeFuncNested
import Derived.OrdersIn
import Derived.OrdersHeld
set_option maxRecDepth 100000
namespace Go.Proofs.YtoaonoflekcccaaDoor
open Go.RowKit

section
variable {P : Program} {ops : Array Oper} {Q : Exit → Act → World → Prop} {n : Nat}
/-- Every function may be called; in a round (some) or in none. -/
def atRo (l : Option Nat) : Fence := { Fence.wide with round := l }
/-- .. and it ends as it goes on, alone. -/
def QN (Q : Exit → Act → World → Prop) : Exit → Act → World → Prop
  | .normal, a, w => Q .normal a w
  | _, _, _ => False
theorem qn_none (Q : Exit → Act → World → Prop) : ¬ LetsOut (QN Q) := fun ⟨_, _, h⟩ => h
theorem qn_in {a : Act} {w : World} (h : Q .normal a w) : QN Q .normal a w := h
def noDefer (ops : Array Oper) : Bool := ops.all fun o => match o.op with | .defer _ => false | _ => true
theorem noDefer_spec (h : noDefer ops = true) {i : Nat} {o : Oper} (hi : ops[i]? = some o) : ∀ c, o.op ≠ .defer c := by
  intro c hc
  unfold noDefer at h
  rw [Array.all_eq_true] at h
  obtain ⟨hlt, rfl⟩ := Array.getElem?_eq_some_iff.1 hi
  have := h i hlt
  rw [hc] at this
  cases this
theorem rowsIn_wide {row : String} {args : Array Value} {w : World} {R : Value → World → Prop} (l : Option Nat) (h : Rows P row args w R) : RowsIn (atRo l) n P row args w R :=
  fun c cs _ => let ⟨v, w', r, s⟩ := h c cs; ⟨v, w', r, (show StepsIn (Machine.fenced P Fence.wide) P _ _ from stepsIn_wide.2 s)⟩
theorem opsIn_of (l0 : Option Nat) (hd : noDefer ops = true) : ∀ (l : List Nat) (a : Act) (w : World), wpOps P ops (QN Q) l a w → wpOpsIn (atRo l0) n P ops Q l a w
  | [], _, _, h => h
  | i :: rest, a, w, h => by
    unfold wpOps at h
    unfold wpOpsIn
    cases ho : ops[i]? with
    | none => simp only [ho] at h ⊢; exact opsIn_of l0 hd rest a w h
    | some o =>
      simp only [ho] at h ⊢
      by_cases hw : Region.wanted o (yielded ops a.tmps) = true
      · simp only [hw, if_true] at h ⊢
        rcases h with h | h
        · refine ⟨fun _ _ => trivial, ?_⟩
          rw [Oper.semAt_eq _ _ _ (noDefer_spec hd ho)]
          unfold Oper.wp at h
          cases hr : (execOp a.eval o).run P w with
          | ok nx w' =>
            rw [hr] at h
            cases nx with
            | value v => exact opsIn_of l0 hd rest _ _ h
            | skip => exact opsIn_of l0 hd rest _ _ h
            | defer d => exact opsIn_of l0 hd rest _ _ h
            | enter f args =>
              refine ⟨fun hs => by simp [atRo, Fence.wide] at hs, (show CallsIn Fence.wide _ P f args w' _ from callsIn_wide.2 (Calls.mono h ?_))⟩
              intro e w2 he
              cases e with
              | returned v => exact opsIn_of l0 hd rest _ _ he
              | panicked c => exact False.elim he
              | outgrown => exact absurd he (qn_none Q)
            | row r args =>
              exact ⟨fun hs => by simp [atRo, Fence.wide] at hs, rowsIn_wide l0 (Rows.mono h fun v w2 he => opsIn_of l0 hd rest _ _ he)⟩
            | _ => exact False.elim h
          | halt hl w' =>
            rw [hr] at h
            cases hl with
            | panic v => exact False.elim h
            | _ => exact False.elim h
        · exact absurd h.2 (qn_none Q)
      · simp only [hw, if_false, Bool.false_eq_true] at h ⊢
        exact ⟨fun _ _ => trivial, opsIn_of l0 hd rest _ _ h⟩
theorem inRound_any (l0 : Option Nat) {id : Nat} {a : Act} {w : World} (hm : P.follows .mixedOrders = true) (hd : noDefer ops = true)
    (h : wpAny P .any ops (QN Q) ops.size (Array.replicate ops.size false) a { w with drawn := w.drawn + 1 }) : (Code.region id ops true).wpIn (atRo l0) n P Q a w :=
  wpIn_region_draw fun t => by
    simp only [Region.schedule, hm, Bool.true_or, if_true]
    exact opsIn_of l0 hd _ _ _ (wpAny_sound ops.size t _ a _ h)
/-- S holds throughout. -/
theorem inRound_held (S : World → Prop) (l0 : Option Nat) {id : Nat} {a : Act} {w : World} (hm : P.follows .mixedOrders = true) (hd : noDefer ops = true)
    (h : wpAnyH P .any ops (QN Q) S ops.size (Array.replicate ops.size false) a w.drew) : (Code.region id ops true).wpIn (atRo l0) n P Q a w :=
  inRound_any l0 hm hd (wpAny_of_held _ _ _ _ h)
theorem round_held (S : World → Prop) (l0 : Nat) {id : Nat} {a : Act} {w : World} (hm : P.follows .mixedOrders = true) (hd : noDefer ops = true)
    (h : wpAnyH P .any ops (QN Q) S ops.size (Array.replicate ops.size false) a w.drew) : (Code.region id ops true).wpIn (Fence.wide.inRound l0) n P Q a w := inRound_held S (some l0) hm hd h
theorem wide_held (S : World → Prop) {id : Nat} {a : Act} {w : World} (hm : P.follows .mixedOrders = true) (hd : noDefer ops = true)
    (h : wpAnyH P .any ops (QN Q) S ops.size (Array.replicate ops.size false) a w.drew) : (Code.region id ops true).wpIn Fence.wide n P Q a w := inRound_held S none hm hd h
/-- An arm of a walk inside a fence: an operation whose value is known. -/
theorem val_in {F : Fence} {rest : List Oper} {o : Oper} {a : Act} {w : World} {v : Value} (hw : Region.wanted o (yielded ops a.tmps) = true) (hd : ∀ c, o.op ≠ .defer c) (hab : o.about P w a.eval = none)
    (hx : (execOp a.eval o).run P w = .ok (.value v) w) (h : wpListIn F n P ops Q rest (a.put o.dst v) w) : wpListIn F n P ops Q (o :: rest) a w := by
  unfold wpListIn
  rw [if_pos hw]
  refine ⟨fun f hf => (by rw [hab] at hf; exact absurd hf (by simp)), ?_⟩
  rw [Oper.semAt_eq _ _ _ hd, hx]
  exact h
end
end Go.Proofs.YtoaonoflekcccaaDoor
