/- A region that draws its order, walked by hand: whole structs that are loaded ahead of all else, calls, whole structs stored into blocks that nobody loads. Of no program. -/
import Derived.Test.YtoaonoflekcccaaDoorBa
import Derived.WalkKit
import Derived.Below
import Derived.Deep.RegionHeld
import Derived.Deep.MidRow
set_option maxRecDepth 100000
namespace Go.Proofs.YtoaonoflekcccaaDoor
open Go.RowKit

section
variable {P : Program} {ops : Array Oper} {Q : Exit → Act → World → Prop} {md : Region.Mode} {S : World → Prop} {fuel : Nat} {listed : Array Bool} {a : Act} {w : World}

theorem wanted_none {o : Oper} {l : Nat → Option Bool} (h : o.guard = none) : Region.wanted o l = true := by simp [Region.wanted, h]
/-- A value that hangs on no world, first. -/
theorem held_val {i : Nat} {oi : Oper} (v : Value) (hi : ops[i]? = some oi) (hs : Region.noSelect ops = true) (hf : Region.free md ops listed i = true) (hr : (Region.ready md ops listed).contains i = true)
    (hQ : ∀ c a w, Q (.panic c) (a.put oi.dst v) w → Q (.panic c) a w) (hg : oi.guard = none) (hv : ∀ w, S w → (execOp a.eval oi).run P w = .ok (.value v) w) (hS : S w)
    (h : wpAnyH P md ops Q S fuel (listed.setIfInBounds i true) (a.put oi.dst v) w) : wpAnyH P md ops Q S (fuel + 1) listed a w :=
  wpAnyH_take hi hs hf hr hQ (.inl ⟨wanted_none hg, hv⟩) hS h
/-- A whole struct, loaded first. -/
theorem held_load {i : Nat} {oi : Oper} {cs : Array Value} {t : TypeId} {g : Nat} (hi : ops[i]? = some oi) (hs : Region.noSelect ops = true) (hf : Region.free md ops listed i = true) (hr : (Region.ready md ops listed).contains i = true)
    (hQ : ∀ c a w, Q (.panic c) (a.put oi.dst (.agg cs)) w → Q (.panic c) a w) (hg : oi.guard = none) (ty : TypeId) (x : Operand) (ho : oi.op = .load ty x) (hx : a.eval x = .pointer (some ⟨g, 0, none⟩))
    (hb : ∀ w, S w → Blk cs t g w) {d : TypeDesc} (hu : P.underlying ty = some d) (hd : (match d with | .struct _ | .array _ _ => true | _ => false) = true) (hz : (P.info? ty).map (·.size) = some cs.size) (hS : S w)
    (h : wpAnyH P md ops Q S fuel (listed.setIfInBounds i true) (a.put oi.dst (.agg cs)) w) : wpAnyH P md ops Q S (fuel + 1) listed a w :=
  wpAnyH_take hi hs hf hr hQ (.inl ⟨wanted_none hg, fun w hw => by
    unfold execOp
    simp only [ho, hx, Instr.loadAt, Instr.sureAddr, Sem.run_bind, Sem.run_pure, Result.andThen_ok, (hb w hw).var hu hd hz]⟩) hS h
/-- The one that may come up now is a call. -/
theorem held_call {i : Nat} {oi : Oper} {f : FuncId} {vals : Array Value} {R : Ending → World → Prop} (hr : Region.ready md ops listed = [i]) (hi : ops[i]? = some oi) (hg : oi.guard = none)
    (hx : (execOp a.eval oi).run P w = .ok (.enter f vals) w) (hc : Calls P f vals w R)
    (hk : ∀ e w', R e w' → ∃ v, e = .returned v ∧ S w' ∧ wpAnyH P md ops Q S fuel (listed.setIfInBounds i true) (a.put oi.dst v) w') : wpAnyH P md ops Q S (fuel + 1) listed a w := by
  refine wpAnyH_all hr (by simp) (fun j hj => ?_)
  obtain rfl : j = i := by simpa using hj
  unfold wpOp
  simp only [hi, wanted_none hg, if_true]
  refine .inl ?_
  unfold Oper.wp
  rw [hx, Oper.upon_enter]
  refine hc.mono fun e w' he => ?_
  obtain ⟨v, rfl, h1, h2⟩ := hk e w' he
  exact ⟨h1, h2⟩
/-- A block of n cells. -/
def Has (n : Nat) (t : TypeId) (g : Nat) (w : World) : Prop := ∃ cs : Array Value, cs.size = n ∧ Blk cs t g w
theorem Has.of {cs : Array Value} {t : TypeId} {g n : Nat} (h : Blk cs t g w) (hn : cs.size = n) : Has n t g w := ⟨cs, hn, h⟩
theorem Has.on {n : Nat} {t : TypeId} {g : Nat} {w' : World} (h : Has n t g w) (hb : Below w.heap.size w w') : Has n t g w' := by
  obtain ⟨cs, hn, h⟩ := h
  exact ⟨cs, hn, h.on hb⟩
theorem Has.lt {n : Nat} {t : TypeId} {g : Nat} (h : Has n t g w) : g < w.heap.size := by obtain ⟨_, _, h⟩ := h; exact h.lt
theorem Blk.far {cs : Array Value} {t : TypeId} {g k : Nat} {w' : World} (h : Blk cs t g w) (hg : w.grownBy w' (some k)) (hne : g ≠ k) : Blk cs t g w' := (hg.block g h.lt (by simpa using hne)).trans h
theorem Has.far {n : Nat} {t : TypeId} {g k : Nat} {w' : World} (h : Has n t g w) (hg : w.grownBy w' (some k)) (hne : g ≠ k) : Has n t g w' := by
  obtain ⟨cs, hn, h⟩ := h
  exact ⟨cs, hn, h.far hg hne⟩
theorem Has.drew {n : Nat} {t : TypeId} {g : Nat} (h : Has n t g w) : Has n t g w.drew := h
/-- A whole value goes into a block. -/
theorem Has.put {n : Nat} {t : TypeId} {g : Nat} (h : Has n t g w) (ys : Array Value) (hy : ys.size = n) (h1 : ∀ v ∈ ys.toList, v.oneCell' = true) {ty : TypeId} (hz : (P.info? ty).map (·.size) = some ys.size) :
    ∃ w', (storeVar ty ⟨g, 0, none⟩ (.agg ys)).run P w = .ok () w' ∧ Blk ys t g w' ∧ w.grownBy w' (some g) := by
  obtain ⟨cs, hn, h⟩ := h
  obtain ⟨w', e1, e2, e3⟩ := h.store (P := P) ys.toList (by rw [Array.length_toList]; omega) h1
  refine ⟨w', ?_, e2, e3⟩
  rw [← e1]
  cases hq : P.info? ty with
  | none => simp [hq] at hz
  | some i =>
    have hs : i.size = ys.size := by simpa [hq] using hz
    simp [storeVar, sizeOf, typeInfo, hq, hs, Sem.run_bind, show (Value.agg ys).cells = ys from rfl]
theorem exec_store {o : Oper} {ty : TypeId} {x y : Operand} {g : Nat} {ys : Array Value} {w' : World} (ho : o.op = .store ty x y) (hx : a.eval x = .pointer (some ⟨g, 0, none⟩)) (hy : a.eval y = .agg ys)
    (h : (storeVar ty ⟨g, 0, none⟩ (.agg ys)).run P w = .ok () w') {K : Act → World → Prop} (hk : K (a.put o.dst undef) w') : o.wp P a w K Q := by
  unfold Oper.wp execOp
  simp only [ho, hx, hy, Instr.storeAt, Instr.sureAddr, Sem.run_bind, Sem.run_pure, Result.andThen_ok, h]
  exact hk
/-- Both results lie in memory, whole. -/
theorem results_blk2 {fn : Func} {p q : Tmp} {ty uy : TypeId} {cs ds : Array Value} {t u : TypeId} {g k : Nat} {d e : TypeDesc} {tmps : Array Value} (h : fn.results = #[.cell p ty, .cell q uy])
    (hp : tmps.getD p undef = .pointer (some ⟨g, 0, none⟩)) (hq : tmps.getD q undef = .pointer (some ⟨k, 0, none⟩)) (hb : Blk cs t g w) (hc : Blk ds u k w)
    (hu : P.underlying ty = some d) (hd : (match d with | .struct _ | .array _ _ => true | _ => false) = true) (hi : (P.info? ty).map (·.size) = some cs.size)
    (hu' : P.underlying uy = some e) (hd' : (match e with | .struct _ | .array _ _ => true | _ => false) = true) (hi' : (P.info? uy).map (·.size) = some ds.size) :
    (results fn tmps).run P w = .ok (.tuple #[.agg cs, .agg ds]) w := by
  have hp' : tmps[p]?.getD undef = .pointer (some ⟨g, 0, none⟩) := by simpa using hp
  have hq' : tmps[q]?.getD undef = .pointer (some ⟨k, 0, none⟩) := by simpa using hq
  simp [results, h, hp', hq', asAddr, hb.var hu hd hi, hc.var hu' hd' hi']
/-- An arm of the walk: a whole value is stored. -/
theorem store_blk {rest : List Oper} {o : Oper} {ys : Array Value} {w' : World} {g : Nat} (hgd : o.guard = none) (ty : TypeId) (x y : Operand) (ho : o.op = .store ty x y) (hy : a.eval y = .agg ys) (hx : a.eval x = .pointer (some ⟨g, 0, none⟩))
    (h : (storeVar ty ⟨g, 0, none⟩ (.agg ys)).run P w = .ok () w') (hk : wpList P ops Q rest (a.put o.dst undef) w') : wpList P ops Q (o :: rest) a w :=
  wpList_plain hgd fun _ hK => exec_store ho hx hy h (hK _ _ hk)
/-- The one that may come up now stores a whole struct. -/
theorem held_store {i : Nat} {oi : Oper} {g n : Nat} {t : TypeId} {ys : Array Value} (hr : Region.ready md ops listed = [i]) (hi : ops[i]? = some oi) (gi : oi.guard = none) (di : oi.dst = none)
    (ty : TypeId) (x y : Operand) (ho : oi.op = .store ty x y) (hx : a.eval x = .pointer (some ⟨g, 0, none⟩)) (hy : a.eval y = .agg ys) (hz : (P.info? ty).map (·.size) = some ys.size) (hn : ys.size = n) (o1 : ∀ v ∈ ys.toList, v.oneCell' = true)
    (hS : S w) (hh : ∀ w, S w → Has n t g w) (hk : ∀ u u', S u → u.grownBy u' (some g) → Has n t g u' → S u')
    (h : ∀ w', S w' → Blk ys t g w' → w.grownBy w' (some g) → wpAnyH P md ops Q S fuel (listed.setIfInBounds i true) a w') : wpAnyH P md ops Q S (fuel + 1) listed a w := by
  have put : ∀ (b : Act) (v : Value), b.put none v = b := fun _ _ => rfl
  refine wpAnyH_all hr (by simp) (fun k hk' => ?_)
  obtain rfl : k = i := by simpa using hk'
  unfold wpOp
  simp only [hi, wanted_none gi, if_true]
  refine .inl ?_
  obtain ⟨w1, e1, b1, k1⟩ := (hh w hS).put (P := P) ys hn o1 hz
  refine exec_store ho hx hy e1 ?_
  have S1 := hk _ _ hS k1 (Has.of b1 hn)
  refine ⟨S1, ?_⟩
  rw [di, put]
  exact h _ S1 b1 k1
end
end Go.Proofs.YtoaonoflekcccaaDoor
