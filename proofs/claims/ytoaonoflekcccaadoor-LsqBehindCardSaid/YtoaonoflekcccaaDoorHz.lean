/- Operations of a region that draws its order and may come up side by side; an array's elements by address. Of no program. -/
import Derived.Test.YtoaonoflekcccaaDoorHk
import Derived.IntWalk
set_option maxRecDepth 100000
namespace Go.Proofs.YtoaonoflekcccaaDoor
open Go.RowKit

namespace Hz
section
variable {P : Program} {ops : Array Oper} {Q : Exit → Act → World → Prop} {md : Region.Mode} {S : World → Prop} {fuel : Nat} {listed : Array Bool} {a : Act} {w : World}
theorem any_two {i j : Nat} (hr : Region.ready md ops listed = [i, j]) (hi : wpOp P ops Q i (fun a' w' => S w' ∧ wpAnyH P md ops Q S fuel (listed.setIfInBounds i true) a' w') a w) (hj : wpOp P ops Q j (fun a' w' => S w' ∧ wpAnyH P md ops Q S fuel (listed.setIfInBounds j true) a' w') a w) : wpAnyH P md ops Q S (fuel + 1) listed a w :=
  wpAnyH_all hr (by simp) fun m hm => by
    simp only [List.mem_cons, List.not_mem_nil, or_false] at hm
    rcases hm with rfl | rfl <;> assumption
theorem any_one {i : Nat} (hr : Region.ready md ops listed = [i]) (hi : wpOp P ops Q i (fun a' w' => S w' ∧ wpAnyH P md ops Q S fuel (listed.setIfInBounds i true) a' w') a w) : wpAnyH P md ops Q S (fuel + 1) listed a w :=
  wpAnyH_all hr (by simp) fun m hm => by
    obtain rfl : m = i := by simpa using hm
    exact hi
/-- A new block comes up. -/
theorem alloc_op {i : Nat} {oi : Oper} {K : Act → World → Prop} {t : TypeId} {cs : Array Value} (hi : ops[i]? = some oi) (gi : oi.guard = none) (ho : oi.op = .alloc t) (hz : (P.info? t).map (·.zero) = some (some (.agg cs))) (h : K (a.put oi.dst (.pointer (some ⟨w.heap.size, 0, none⟩))) (w.alloc (.cells cs t))) : wpOp P ops Q i K a w := by
  have hx : (execOp a.eval oi).run P w = .ok (.value (.pointer (some ⟨w.heap.size, 0, none⟩))) (w.alloc (.cells cs t)) := by
    cases hq : P.info? t with
    | none => simp [hq] at hz
    | some z =>
      have hz' : z.zero = some (.agg cs) := by simpa [hq] using hz
      unfold execOp
      simp [ho, Instr.alloc, zeroValue, typeInfo, hq, hz', newVar, newRow, Value.cells]
  unfold wpOp
  simp only [hi, wanted_none gi, if_true]
  refine .inl ?_
  unfold Oper.wp
  rw [hx]
  exact h
theorem call_op {i : Nat} {oi : Oper} {K : Act → World → Prop} {f : FuncId} {vals : Array Value} {R : Ending → World → Prop} (hi : ops[i]? = some oi) (hg : Region.wanted oi (yielded ops a.tmps) = true)
    (hx : (execOp a.eval oi).run P w = .ok (.enter f vals) w) (hc : Calls P f vals w R) (hk : ∀ e w', R e w' → ∃ v, e = .returned v ∧ K (a.put oi.dst v) w') : wpOp P ops Q i K a w := by
  unfold wpOp
  simp only [hi, hg, if_true]
  refine .inl ?_
  unfold Oper.wp
  rw [hx, Oper.upon_enter]
  refine hc.mono fun e w' he => ?_
  obtain ⟨v, rfl, h1⟩ := hk e w' he
  exact h1
theorem store_op {i : Nat} {oi : Oper} {K : Act → World → Prop} {g n : Nat} {t : TypeId} {ys : Array Value} (hi : ops[i]? = some oi) (gi : oi.guard = none) (di : oi.dst = none) (ty : TypeId) (x y : Operand) (ho : oi.op = .store ty x y) (hx : a.eval x = .pointer (some ⟨g, 0, none⟩)) (hy : a.eval y = .agg ys)
    (hz : (P.info? ty).map (·.size) = some ys.size) (hn : ys.size = n) (o1 : ∀ v ∈ ys.toList, v.oneCell' = true) (hh : Has n t g w) (h : ∀ w', Blk ys t g w' → w.grownBy w' (some g) → K a w') : wpOp P ops Q i K a w := by
  have put : ∀ (b : Act) (v : Value), b.put none v = b := fun _ _ => rfl
  unfold wpOp
  simp only [hi, wanted_none gi, if_true]
  refine .inl ?_
  obtain ⟨w1, e1, b1, k1⟩ := hh.put (P := P) ys hn o1 hz
  refine exec_store ho hx hy e1 ?_
  rw [di, put]
  exact h _ b1 k1
end
section
variable {P : Program} {o : Oper} {a : Act} {w : World}
/-- The address of an array's element. -/
theorem ex_indexA {t : TypeId} {x ix : Operand} {e : TypeId} {kd : IntKind} {g off n j z p : Nat} {q : Int} (ho : o.op = .indexAddr t x ix) (hx : a.eval x = .pointer (some ⟨g, off, none⟩)) (hi : a.eval ix = .int kd q) (hq : q = (j : Int)) (hj : j < n) (he : P.underlying t = some (.array n e)) (hs : (sizeOf e).run P w = .ok z w) (hp : off + j * z = p) :
    (execOp a.eval o).run P w = .ok (.value (.pointer (some ⟨g, p, none⟩))) w := by
  subst hq hp
  have h0 : (0 : Int) ≤ (j : Int) ∧ (j : Int) < (n : Int) := by omega
  have ha : (⟨g, off, none⟩ : Addr).add (j * z) = ⟨g, off + j * z, none⟩ := by unfold Addr.add; split <;> simp_all
  unfold execOp
  simp [ho, hx, hi, Instr.indexAt, Instr.sureAddr, asIntOf, run_underlying he, hs, h0, ha, hj]
/-- Some cells of a block that is known whole, as a value. -/
theorem ex_load_mid {ty t : TypeId} {x : Operand} {g k : Nat} {ds : Array Value} (cs : List Value) (ho : o.op = .load ty x) (hx : a.eval x = .pointer (some ⟨g, k, none⟩)) (hb : Blk ds t g w) (hc : ∀ j v, cs[j]? = some v → ds[k + j]? = some v)
    {d : TypeDesc} (hu : P.underlying ty = some d) (hd : d.isRow = true) (hi : (P.info? ty).map (·.size) = some cs.length) : (execOp a.eval o).run P w = .ok (.value (.agg cs.toArray)) w := by
  have hr := run_loadAt_mid (P := P) w g k ty cs d (fun j v hv => (hb.cell (k + j)).trans (hc j v hv)) hu hd hi
  unfold execOp
  simp only [ho, hx, Sem.run_bind, Sem.run_pure, Result.andThen_ok, hr]
/-- .. of cells that are known one by one. -/
theorem ex_load_cells {ty : TypeId} {x : Operand} {g k : Nat} (cs : List Value) (ho : o.op = .load ty x) (hx : a.eval x = .pointer (some ⟨g, k, none⟩)) (hc : ∀ j v, cs[j]? = some v → w.cell? ⟨g, k + j, none⟩ = some v)
    {d : TypeDesc} (hu : P.underlying ty = some d) (hd : d.isRow = true) (hi : (P.info? ty).map (·.size) = some cs.length) : (execOp a.eval o).run P w = .ok (.value (.agg cs.toArray)) w := by
  have hr := run_loadAt_mid (P := P) w g k ty cs d hc hu hd hi
  unfold execOp
  simp only [ho, hx, Sem.run_bind, Sem.run_pure, Result.andThen_ok, hr]
/-- The address of a slice's element of z cells. -/
theorem ex_indexz {t : TypeId} {x ix : Operand} {e : TypeId} {g off n c j z : Nat} {q : Int} (ho : o.op = .indexAddr t x ix) (hx : a.eval x = .slice (some ⟨g, off, none⟩) n c) (hi : a.eval ix = .int .i64 q) (hq : q = (j : Int)) (hj : j < n) (he : P.underlying t = some (.slice e)) (hs : (sizeOf e).run P w = .ok z w) :
    (execOp a.eval o).run P w = .ok (.value (.pointer (some ⟨g, off + j * z, none⟩))) w := by
  subst hq
  have h0 : (0 : Int) ≤ (j : Int) ∧ (j : Int) < (n : Int) := by omega
  have ha : (⟨g, off, none⟩ : Addr).add (j * z) = ⟨g, off + j * z, none⟩ := by unfold Addr.add; split <;> simp_all
  unfold execOp
  simp [ho, hx, hi, Instr.indexAt, asIntOf, run_underlying he, hs, h0, ha, hj]
theorem ex_indexp {t : TypeId} {x ix : Operand} {e : TypeId} {g off n c j z p : Nat} {q : Int} (ho : o.op = .indexAddr t x ix) (hx : a.eval x = .slice (some ⟨g, off, none⟩) n c) (hi : a.eval ix = .int .i64 q) (hq : q = (j : Int)) (hj : j < n) (he : P.underlying t = some (.slice e)) (hs : (sizeOf e).run P w = .ok z w) (hp : off + j * z = p) :
    (execOp a.eval o).run P w = .ok (.value (.pointer (some ⟨g, p, none⟩))) w := by
  subst hp
  exact ex_indexz ho hx hi hq hj he hs
/-- The address of a field. -/
theorem ex_fieldz {t : TypeId} {x : Operand} {f g off z : Nat} (ho : o.op = .fieldAddr t x f) (hx : a.eval x = .pointer (some ⟨g, off, none⟩)) (hr : ∀ w, (Instr.fieldAt t (.pointer (some ⟨g, off, none⟩)) f).run P w = .ok (.pointer (some ⟨g, off + z, none⟩)) w) :
    (execOp a.eval o).run P w = .ok (.value (.pointer (some ⟨g, off + z, none⟩))) w := by
  unfold execOp
  simp [ho, hx, hr]
/-- x[:p] -/
theorem ex_to {t : TypeId} {x hi : Operand} {e : TypeId} {A : Option Addr} {n c z : Nat} {p : Nat} (ho : o.op = .slice t x none (some hi) none) (hx : a.eval x = .slice A n c) (hl : a.eval hi = .int .i64 (p : Int))
    (hc : p ≤ c) (he : P.underlying t = some (.slice e)) (hs : (sizeOf e).run P w = .ok z w) :
    (execOp a.eval o).run P w = .ok (.value (.slice A p c)) w := by
  have hu : P.underlying t = some (.slice (P.elem t)) := by rw [he]; simp [Program.elem, he]
  have hp : (p : Int) ≤ (c : Int) := by omega
  have hp0 : (0 : Int) ≤ (p : Int) := by omega
  unfold execOp
  simp only [ho, hx, Option.map_some, Option.map_none, hl, Sem.run_bind, run_sliceAt_slice _ _ _ _ _ _ hu, run_slice_any _ _ _ _ _ hu]
  simp [Instr.sliceBounds, go_sem, hp, hp0, he, hs, sliced]
theorem ex_addI {t u : TypeId} {x y : Operand} {m n : Int} (ho : o.op = .binOp .add t x y u) (hx : a.eval x = .int .i64 m) (hy : a.eval y = .int .i64 n) (h : -9223372036854775808 ≤ m + n ∧ m + n ≤ 9223372036854775807) :
    (execOp a.eval o).run P w = .ok (.value (.int .i64 (m + n))) w := by
  have e : IntKind.i64.wrap (m + n) = m + n := by rw [IntKind.wrap_i64]; omega
  unfold execOp
  simp only [ho, hx, hy, eqGuard_at_int]
  simp [go_sem, e]
/-- A comparison of two integers of one kind, whatever it is. -/
theorem ex_cmpK {op : BinOp} {t u : TypeId} {x y : Operand} {kd : IntKind} {m n : Int} {b : Bool} (ho : o.op = .binOp op t x y u) (hx : a.eval x = .int kd m) (hy : a.eval y = .int kd n) (h : (binOp op t (.int kd m) (.int kd n)).run P w = .ok (.bool b) w) :
    (execOp a.eval o).run P w = .ok (.value (.bool b)) w := by
  unfold execOp
  simp only [ho, hx, hy, eqGuard_at_int]
  simp [h]
theorem ex_eqK {t u : TypeId} {x y : Operand} {kd : IntKind} {m n : Int} {b : Bool} (ho : o.op = .binOp .eql t x y u) (hx : a.eval x = .int kd m) (hy : a.eval y = .int kd n) (h : decide (m = n) = b) :
    (execOp a.eval o).run P w = .ok (.value (.bool b)) w := by
  subst h
  unfold execOp
  simp only [ho, hx, hy, eqGuard_at_int]
  simp [go_sem]
  rw [Bool.eq_iff_iff]; simp
theorem ex_gtK {t u : TypeId} {x y : Operand} {kd : IntKind} {m n : Int} {b : Bool} (ho : o.op = .binOp .gtr t x y u) (hx : a.eval x = .int kd m) (hy : a.eval y = .int kd n) (h : decide (n < m) = b) :
    (execOp a.eval o).run P w = .ok (.value (.bool b)) w := by
  subst h
  unfold execOp
  simp only [ho, hx, hy, eqGuard_at_int]
  simp [go_sem]
theorem ex_ltK {t u : TypeId} {x y : Operand} {kd : IntKind} {m n : Int} {b : Bool} (ho : o.op = .binOp .lss t x y u) (hx : a.eval x = .int kd m) (hy : a.eval y = .int kd n) (h : decide (m < n) = b) :
    (execOp a.eval o).run P w = .ok (.value (.bool b)) w := by
  subst h
  unfold execOp
  simp only [ho, hx, hy, eqGuard_at_int]
  simp [go_sem]
theorem ex_geK {t u : TypeId} {x y : Operand} {kd : IntKind} {m n : Int} {b : Bool} (ho : o.op = .binOp .geq t x y u) (hx : a.eval x = .int kd m) (hy : a.eval y = .int kd n) (h : decide (n ≤ m) = b) :
    (execOp a.eval o).run P w = .ok (.value (.bool b)) w := by
  subst h
  unfold execOp
  simp only [ho, hx, hy, eqGuard_at_int]
  simp [go_sem]
theorem ex_neK {t u : TypeId} {x y : Operand} {kd : IntKind} {m n : Int} {b : Bool} (ho : o.op = .binOp .neq t x y u) (hx : a.eval x = .int kd m) (hy : a.eval y = .int kd n) (h : decide (m ≠ n) = b) :
    (execOp a.eval o).run P w = .ok (.value (.bool b)) w := by
  subst h
  unfold execOp
  simp only [ho, hx, hy, eqGuard_at_int]
  simp [go_sem]
  rw [Bool.eq_iff_iff]; simp
end
/-- Some cells are written over, in the midst of a block that is known whole. -/
theorem part {P : Program} {w : World} {ds : Array Value} {t : TypeId} {g : Nat} (hb : Blk ds t g w) (k : Nat) (cs : List Value) (hk : k + cs.length ≤ ds.size) (h1 : ∀ v ∈ cs, v.oneCell' = true) :
    ∃ w', (storeCells ⟨g, k, none⟩ cs 0).run P w = .ok () w' ∧ Blk (ds.toList.take k ++ cs ++ ds.toList.drop (k + cs.length)).toArray t g w' ∧ w.grownBy w' (some g) := by
  have hr := run_storeCells_at (P := P) g k t cs 0 ds w hb (by simpa using hk) h1
  simp only [Nat.add_zero] at hr
  exact ⟨_, hr, setRow_heap w g ds _ _ _ hb, ⟨rfl, rfl, rfl, by simp, fun j _ hj => setRow_other w g j _ (fun e => hj (by rw [e]))⟩⟩
theorem run_store_part {P : Program} {w w' : World} {ty : TypeId} {ad : Addr} {cs : List Value} (hz : (P.info? ty).map (·.size) = some cs.length) (h : (storeCells ad cs 0).run P w = .ok () w') : (Instr.storeAt ty (.pointer (some ad)) (.agg cs.toArray)).run P w = .ok () w' := by
  have h2 : (storeVar ty ad (.agg cs.toArray)).run P w = .ok () w' := by
    rw [← h]
    cases hq : P.info? ty with
    | none => simp [hq] at hz
    | some i =>
      have hs : i.size = cs.length := by simpa [hq] using hz
      simp [storeVar, sizeOf, typeInfo, hq, hs, Sem.run_bind, show (Value.agg cs.toArray).cells = cs.toArray from rfl]
  simp only [Instr.storeAt, Instr.sureAddr, Sem.run_bind, Sem.run_pure, Result.andThen_ok, h2]
/-- An arm of the walk: a store that is known. -/
theorem store_arm {P : Program} {ops : Array Oper} {Q : Exit → Act → World → Prop} {rest : List Oper} {o : Oper} {a : Act} {w w' : World} {ad : Addr} {v : Value} (hgd : o.guard = none) (ty : TypeId) (x y : Operand) (ho : o.op = .store ty x y) (hx : a.eval x = .pointer (some ad)) (hy : a.eval y = v)
    (hr : (Instr.storeAt ty (.pointer (some ad)) v).run P w = .ok () w') (hk : wpList P ops Q rest (a.put o.dst undef) w') : wpList P ops Q (o :: rest) a w :=
  wpList_plain hgd fun _ hK => by
    unfold Oper.wp execOp
    simp only [ho, hx, hy, Sem.run_bind, Sem.run_pure, Result.andThen_ok, hr, Oper.upon_skip]
    exact hK _ _ hk

/-- An operation whose value is known, guarded or not. -/
theorem val_arm {P : Program} {ops : Array Oper} {Q : Exit → Act → World → Prop} {rest : List Oper} {o : Oper} {a : Act} {w : World} {v : Value} (hw : Region.wanted o (yielded ops a.tmps) = true) (hx : (execOp a.eval o).run P w = .ok (.value v) w) (h : wpList P ops Q rest (a.put o.dst v) w) : wpList P ops Q (o :: rest) a w :=
  BigFrame.wpList_want hw fun K hK => by
    unfold Oper.wp
    rw [hx]
    exact hK _ _ h
/-- A whole block, loaded. -/
theorem ex_load_all {P : Program} {o : Oper} {a : Act} {w : World} {cs : Array Value} {t : TypeId} {g : Nat} (ty : TypeId) (x : Operand) (ho : o.op = .load ty x) (hx : a.eval x = .pointer (some ⟨g, 0, none⟩)) (hb : Blk cs t g w) {d : TypeDesc} (hu : P.underlying ty = some d) (hd : (match d with | .struct _ | .array _ _ => true | _ => false) = true)
    (hz : (P.info? ty).map (·.size) = some cs.size) : (execOp a.eval o).run P w = .ok (.value (.agg cs)) w := by
  unfold execOp
  simp only [ho, hx, Instr.loadAt, Instr.sureAddr, Sem.run_bind, Sem.run_pure, Result.andThen_ok, hb.var hu hd hz]
/-- A call whose contract is known. -/
theorem wp_call {P : Program} {o : Oper} {a : Act} {w : World} {K : Act → World → Prop} {Q : Exit → Act → World → Prop} {f : FuncId} {vals : Array Value} {R : Ending → World → Prop} (hx : (execOp a.eval o).run P w = .ok (.enter f vals) w) (hc : Calls P f vals w R)
    (hk : ∀ e w', R e w' → ∃ v, e = .returned v ∧ K (a.put o.dst v) w') : o.wp P a w K Q := by
  unfold Oper.wp
  rw [hx, Oper.upon_enter]
  refine hc.mono fun e w' he => ?_
  obtain ⟨v, rfl, h1⟩ := hk e w' he
  exact h1
end Hz
end Go.Proofs.YtoaonoflekcccaaDoor
