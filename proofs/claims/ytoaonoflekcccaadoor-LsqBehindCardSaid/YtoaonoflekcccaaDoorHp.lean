/- A region that draws its order, in which what was loaded is written over behind a call c: a condition holds till c has come up. Of no program. -/
import Derived.Test.YtoaonoflekcccaaDoorHd
set_option maxRecDepth 100000
namespace Go.Proofs.YtoaonoflekcccaaDoor
open Go.RowKit

section
variable {P : Program} {ops : Array Oper} {Q : Exit → Act → World → Prop} {md : Region.Mode} {S : World → Prop} {c : Nat}

/-- All that an operation waits for has come up ahead of it. -/
def shutB (md : Region.Mode) (ops : Array Oper) (listed : Array Bool) : Bool :=
  (List.range ops.size).all fun j => !listed.getD j false || ((ops[j]?).map fun o => o.after.all fun e => !Region.binds md e || listed.getD e.on false).getD true
def Shut (md : Region.Mode) (ops : Array Oper) (listed : Array Bool) : Prop := ∀ j o, ops[j]? = some o → listed.getD j false = true → ∀ e ∈ o.after, Region.binds md e = true → listed.getD e.on false = true
theorem shut_of {listed : Array Bool} (h : shutB md ops listed = true) : Shut md ops listed := fun j o hj hl e he hb => by
  have h1 := List.all_eq_true.1 h j (List.mem_range.2 (Array.getElem?_eq_some_iff.1 hj).1)
  simp only [hl, hj, Bool.not_true, Bool.false_or, Option.map_some, Option.getD_some] at h1
  have h2 := Array.all_eq_true'.1 h1 e he
  simpa [hb] using h2
theorem unlisted {listed : Array Bool} {i : Nat} (h : listed.getD i true = false) : listed.getD i false = false := by
  rcases Nat.lt_or_ge i listed.size with h' | h'
  · simp [h'] at h ⊢; exact h
  · simp [Array.getElem?_eq_none h'] at h
theorem Shut.put {listed : Array Bool} {i : Nat} (h : Shut md ops listed) (hi : i ∈ Region.ready md ops listed) : Shut md ops (listed.setIfInBounds i true) := fun j o hj hl e he hb => by
  by_cases hji : i = j
  · subst hji
    obtain ⟨_, o', ho', hall⟩ := mem_ready.1 hi
    obtain rfl : o = o' := Option.some.inj (hj.symm.trans ho')
    exact getD_set_true (hall e he hb)
  · rw [getD_set_ne false hji] at hl
    exact getD_set_true (h j o hj hl e he hb)
/-- The second waits for the first, and so on. -/
def wayB (md : Region.Mode) (ops : Array Oper) : Nat → List Nat → Bool
  | _, [] => true
  | i, m :: l => ((ops[m]?).map fun o => o.after.any fun e => Region.binds md e && e.on == i).getD false && wayB md ops m l
theorem way_step {i m : Nat} (h : ((ops[m]?).map fun o => o.after.any fun e => Region.binds md e && e.on == i).getD false = true) : ∃ o, ops[m]? = some o ∧ ∃ e ∈ o.after, Region.binds md e = true ∧ e.on = i := by
  cases ho : ops[m]? with
  | none => simp [ho] at h
  | some o =>
    simp only [ho, Option.map_some, Option.getD_some] at h
    obtain ⟨e, he, hb⟩ := Array.any_eq_true'.1 h
    simp only [Bool.and_eq_true, beq_iff_eq] at hb
    exact ⟨o, rfl, e, he, hb.1, hb.2⟩
/-- Who waits for one that hasn't come up hasn't come up, and may not yet. -/
theorem way_late : ∀ (l : List Nat) (i : Nat) (listed : Array Bool), Shut md ops listed → listed.getD i false = false → wayB md ops i l = true → ∀ c, l.getLast? = some c → listed.getD c false = false ∧ c ∉ Region.ready md ops listed
  | [], _, _, _, _, _, _, hl => by cases hl
  | m :: l, i, listed, hs, hi, hw, c, hl => by
    simp only [wayB, Bool.and_eq_true] at hw
    obtain ⟨o, ho, e, he, hb, hon⟩ := way_step hw.1
    have hm : listed.getD m false = false := by
      cases hq : listed.getD m false with
      | false => rfl
      | true => have := hs m o ho hq e he hb; rw [hon, hi] at this; cases this
    cases l with
    | nil =>
      obtain rfl : m = c := by simpa using hl
      refine ⟨hm, fun hr => ?_⟩
      obtain ⟨_, o', ho', hall⟩ := mem_ready.1 hr
      obtain rfl : o = o' := Option.some.inj (ho.symm.trans ho')
      have := hall e he hb
      rw [hon, hi] at this
      cases this
    | cons m2 l2 =>
      refine way_late (m2 :: l2) m listed hs hm hw.2 c ?_
      rw [List.getLast?_cons_cons] at hl
      exact hl

/-- Whatever order is picked from here on, and, till c has come up, S holds behind each operation. -/
def wpAnyP (P : Program) (md : Region.Mode) (ops : Array Oper) (Q : Exit → Act → World → Prop) (S : World → Prop) (c : Nat) : Nat → Array Bool → Act → World → Prop
  | 0, listed, a, w => Region.ready md ops listed = [] ∧ Q .normal a w
  | fuel + 1, listed, a, w =>
    (Region.ready md ops listed = [] → Q .normal a w) ∧
    ∀ i ∈ Region.ready md ops listed, wpOp P ops Q i (fun a' w' => ((listed.setIfInBounds i true).getD c false = true ∨ S w') ∧ wpAnyP P md ops Q S c fuel (listed.setIfInBounds i true) a' w') a w
theorem wpAny_of_P : ∀ (fuel : Nat) (listed : Array Bool) (a : Act) (w : World), wpAnyP P md ops Q S c fuel listed a w → wpAny P md ops Q fuel listed a w
  | 0, _, _, _, h => h
  | fuel + 1, _, _, _, h => ⟨h.1, fun i hi => wpOp_mono (fun a' w' h' => wpAny_of_P fuel _ a' w' h'.2) (h.2 i hi)⟩
theorem wp_region_P {id : Nat} {a : Act} {w : World} (S : World → Prop) (c : Nat) (hm : P.follows .mixedOrders = true)
    (h : wpAnyP P .any ops Q S c ops.size (Array.replicate ops.size false) a { w with drawn := w.drawn + 1 }) : (Code.region id ops true).wp P Q a w :=
  wp_region_any hm (wpAny_of_P _ _ _ _ h)
/-- Behind c nothing is asked. -/
theorem wpAnyP_free : ∀ (fuel : Nat) (listed : Array Bool) (a : Act) (w : World), listed.getD c false = true → wpAnyH P md ops Q (fun _ => True) fuel listed a w → wpAnyP P md ops Q S c fuel listed a w
  | 0, _, _, _, _, h => h
  | fuel + 1, _, _, _, hc, h => ⟨h.1, fun i hi => wpOp_mono (fun a' w' h' => ⟨.inl (getD_set_true hc), wpAnyP_free fuel _ a' w' (getD_set_true hc) h'.2⟩) (h.2 i hi)⟩
theorem wpAnyP_first {i : Nat} {oi : Oper} {v : Value} {way : List Nat} (hi : ops[i]? = some oi) (hsel : ∀ (j : Nat) (o : Oper) cs b, ops[j]? = some o → o.op ≠ .select cs b)
    (hQ : ∀ c a w, Q (.panic c) (a.put oi.dst v) w → Q (.panic c) a w) (hw : wayB md ops i way = true) (hc : way.getLast? = some c) :
    ∀ (fuel : Nat) (listed : Array Bool) (a : Act) (w : World), Shut md ops listed →
      (∀ j oj, ops[j]? = some oj → j ≠ i → listed.getD j true = false → (∀ e ∈ oj.after, Region.binds md e = true → e.on ≠ i) → oi.apart ops oj = true) →
      i ∈ Region.ready md ops listed → YieldsIf P ops S oi v a → S w →
      wpAnyP P md ops Q S c fuel (listed.setIfInBounds i true) (a.put oi.dst v) w → wpAnyP P md ops Q S c (fuel + 1) listed a w
  | 0, listed, a, w, hs, _, hr, hy, hS, H => by
    refine ⟨fun h => (by rw [h] at hr; cases hr), fun j hj => ?_⟩
    by_cases hji : j = i
    · subst hji; exact hy.wpOp hi hS ⟨.inr hS, H⟩
    · have := ready_mono hj hji
      rw [H.1] at this
      cases this
  | fuel + 1, listed, a, w, hs, hfree, hr, hy, hS, H => by
    have hiu := unlisted (mem_ready.1 hr).1
    obtain ⟨hcu, hcr⟩ := way_late way i listed hs hiu hw c hc
    refine ⟨fun h => (by rw [h] at hr; cases hr), fun j hj => ?_⟩
    by_cases hji : j = i
    · subst hji; exact hy.wpOp hi hS ⟨.inr hS, H⟩
    · have hcj : j ≠ c := fun e => hcr (e ▸ hj)
      have hci : i ≠ c := fun e => hcr (e ▸ hr)
      have h1 := H.2 j (ready_mono hj hji)
      obtain ⟨hjun, oj, hoj, hall⟩ := mem_ready.1 hj
      have hnot : ∀ e ∈ oj.after, Region.binds md e = true → e.on ≠ i := fun e he hb heq => by
        have h2 := hall e he hb
        rw [heq, hiu] at h2
        cases h2
      have h2 := wpOp_putIf hoj (hfree j oj hoj hji hjun hnot) (fun cs b => hsel i oi cs b hi) (fun cs b => hsel j oj cs b hoj) hQ hy h1
      have hfree' : ∀ k ok, ops[k]? = some ok → k ≠ i → (listed.setIfInBounds j true).getD k true = false → (∀ e ∈ ok.after, Region.binds md e = true → e.on ≠ i) → oi.apart ops ok = true := fun k ok hk hki hun hno => by
        refine hfree k ok hk hki ?_ hno
        by_cases hjk : j = k
        · subst hjk; exact hjun
        · rw [getD_set_ne true hjk] at hun; exact hun
      refine wpOp_mono (fun a' w' h3 => ?_) h2
      have hS' : S w' := by
        rcases h3.2.1 with h4 | h4
        · rw [getD_set_ne false hcj, getD_set_ne false hci, hcu] at h4; cases h4
        · exact h4
      refine ⟨.inr hS', wpAnyP_first hi hsel hQ hw hc fuel (listed.setIfInBounds j true) a' w' (hs.put hj) hfree' (ready_mono hr (Ne.symm hji)) h3.1 hS' ?_⟩
      rw [Array.setIfInBounds_comm _ _ hji]
      exact h3.2.2

variable {fuel : Nat} {listed : Array Bool} {a : Act} {w : World}
theorem heldP_val {i : Nat} {oi : Oper} (way : List Nat) (v : Value) (hi : ops[i]? = some oi) (hs : Region.noSelect ops = true) (hf : Region.free md ops listed i = true) (hr : (Region.ready md ops listed).contains i = true) (hl : shutB md ops listed = true) (hw : wayB md ops i way = true) (hc : way.getLast? = some c)
    (hQ : ∀ c a w, Q (.panic c) (a.put oi.dst v) w → Q (.panic c) a w) (hg : oi.guard = none) (hv : ∀ w, S w → (execOp a.eval oi).run P w = .ok (.value v) w) (hS : S w)
    (h : wpAnyP P md ops Q S c fuel (listed.setIfInBounds i true) (a.put oi.dst v) w) : wpAnyP P md ops Q S c (fuel + 1) listed a w :=
  wpAnyP_first hi (Region.noSelect_spec hs) hQ hw hc fuel listed a w (shut_of hl) (Region.free_spec hi hf) (by simpa using hr) (.inl ⟨wanted_none hg, hv⟩) hS h
theorem heldP_load {i : Nat} {oi : Oper} (way : List Nat) {cs : Array Value} {t : TypeId} {g : Nat} (hi : ops[i]? = some oi) (hs : Region.noSelect ops = true) (hf : Region.free md ops listed i = true) (hr : (Region.ready md ops listed).contains i = true) (hl : shutB md ops listed = true) (hw : wayB md ops i way = true) (hc : way.getLast? = some c)
    (hQ : ∀ c a w, Q (.panic c) (a.put oi.dst (.agg cs)) w → Q (.panic c) a w) (hg : oi.guard = none) (ty : TypeId) (x : Operand) (ho : oi.op = .load ty x) (hx : a.eval x = .pointer (some ⟨g, 0, none⟩))
    (hb : ∀ w, S w → Blk cs t g w) {d : TypeDesc} (hu : P.underlying ty = some d) (hd : (match d with | .struct _ | .array _ _ => true | _ => false) = true) (hz : (P.info? ty).map (·.size) = some cs.size) (hS : S w)
    (h : wpAnyP P md ops Q S c fuel (listed.setIfInBounds i true) (a.put oi.dst (.agg cs)) w) : wpAnyP P md ops Q S c (fuel + 1) listed a w :=
  heldP_val way (.agg cs) hi hs hf hr hl hw hc hQ hg (fun w hw => by
    unfold execOp
    simp only [ho, hx, Instr.loadAt, Instr.sureAddr, Sem.run_bind, Sem.run_pure, Result.andThen_ok, (hb w hw).var hu hd hz]) hS h
theorem heldP_call {i : Nat} {oi : Oper} {f : FuncId} {vals : Array Value} {R : Ending → World → Prop} (hr : Region.ready md ops listed = [i]) (hi : ops[i]? = some oi) (hg : oi.guard = none)
    (hx : (execOp a.eval oi).run P w = .ok (.enter f vals) w) (hc : Calls P f vals w R)
    (hk : ∀ e w', R e w' → ∃ v, e = .returned v ∧ ((listed.setIfInBounds i true).getD c false = true ∨ S w') ∧ wpAnyP P md ops Q S c fuel (listed.setIfInBounds i true) (a.put oi.dst v) w') : wpAnyP P md ops Q S c (fuel + 1) listed a w := by
  refine ⟨fun h => (by rw [hr] at h; cases h), fun j hj => ?_⟩
  rw [hr] at hj
  obtain rfl : j = i := by simpa using hj
  unfold wpOp
  simp only [hi, wanted_none hg, if_true]
  refine .inl ?_
  unfold Oper.wp
  rw [hx, Oper.upon_enter]
  refine hc.mono fun e w' he => ?_
  obtain ⟨v, rfl, h1, h2⟩ := hk e w' he
  exact ⟨h1, h2⟩
/-- The one that may come up now stores a whole struct; nothing is asked of the worlds. -/
theorem free_store {i : Nat} {oi : Oper} {g n : Nat} {t : TypeId} {ys : Array Value} (hr : Region.ready md ops listed = [i]) (hi : ops[i]? = some oi) (gi : oi.guard = none) (di : oi.dst = none)
    (ty : TypeId) (x y : Operand) (ho : oi.op = .store ty x y) (hx : a.eval x = .pointer (some ⟨g, 0, none⟩)) (hy : a.eval y = .agg ys) (hz : (P.info? ty).map (·.size) = some ys.size) (hn : ys.size = n) (o1 : ∀ v ∈ ys.toList, v.oneCell' = true)
    (hh : Has n t g w) (h : ∀ w', Blk ys t g w' → w.grownBy w' (some g) → wpAnyH P md ops Q (fun _ => True) fuel (listed.setIfInBounds i true) a w') : wpAnyH P md ops Q (fun _ => True) (fuel + 1) listed a w := by
  have put : ∀ (b : Act) (v : Value), b.put none v = b := fun _ _ => rfl
  refine wpAnyH_all hr (by simp) (fun k hk' => ?_)
  obtain rfl : k = i := by simpa using hk'
  unfold wpOp
  simp only [hi, wanted_none gi, if_true]
  refine .inl ?_
  obtain ⟨w1, e1, b1, k1⟩ := hh.put (P := P) ys hn o1 hz
  refine exec_store ho hx hy e1 ?_
  refine ⟨trivial, ?_⟩
  rw [di, put]
  exact h _ b1 k1
end
end Go.Proofs.YtoaonoflekcccaaDoor
