/- '==' on harts and on what was done. Layer 11's laws: arms of the walk, new blocks for what Step gives; a step's plain facts. Layer 11: SeqStays. -/
import Derived.Test.YtolmecnjolfjgaaGreatDoorQ0s
import Derived.Test.YtolmecnjolfjgaaGreatDoorBas
import Derived.ChangeKeysEq
import Derived.WalkKit
import Derived.Test.YtolmecnjolfjgaaGreatDoorAals
set_option linter.unusedVariables false
set_option maxRecDepth 100000
namespace Go.Proofs.YtolmecnjolfjgaaGreatDoor
open Go.RowKit

def hrtEq (a b : Hrt) : Bool := (a.pc == b.pc) && ((a.x == b.x) && (a.cause == b.cause))
theorem hrtEq_iff (a b : Hrt) : hrtEq a b = true ↔ a = b := by
  obtain ⟨p, x, c⟩ := a
  obtain ⟨q, y, d⟩ := b
  unfold hrtEq
  simp
theorem hrtEq_self (a : Hrt) : hrtEq a a = true := (hrtEq_iff a a).2 rfl
theorem all_same (xs ys : List Int) (h : xs.length = ys.length) : ((List.range xs.length).all fun i => xs.getD i 0 == ys.getD i 0) = (xs == ys) := by
  rw [Bool.eq_iff_iff, List.all_eq_true, beq_iff_eq]
  constructor
  · intro hq
    refine List.ext_getElem h fun i h1 h2 => ?_
    have := hq i (List.mem_range.2 h1)
    simpa [List.getD_eq_getElem?_getD, List.getElem?_eq_getElem h1, List.getElem?_eq_getElem h2] using this
  · rintro rfl i _
    simp
section
variable {P : Program} (w : World)
theorem run_items_u64 (d : Nat) {e : TypeId} (he : P.underlying e = some (.int .u64)) (xs ys : List Int) : ∀ is : List Nat, (∀ i ∈ is, i < xs.length ∧ i < ys.length) →
    (Op.eqItems (d + 1) e 1 (xs.map (Value.int .u64)).toArray (ys.map (Value.int .u64)).toArray is).run P w = .ok (is.all fun i => xs.getD i 0 == ys.getD i 0) w
  | [], _ => by simp [Op.eqItems]
  | i :: is, h => by
    have hi := h i (by simp)
    have p1 := run_part_flat (P := P) w (cs := (xs.map (Value.int .u64)).toArray) (o := i * 1) (v := .int .u64 (xs.getD i 0)) he rfl (by
      rw [List.getElem?_toArray, List.getElem?_map, List.getD_eq_getElem?_getD, Nat.mul_one, List.getElem?_eq_getElem hi.1]; rfl)
    have p2 := run_part_flat (P := P) w (cs := (ys.map (Value.int .u64)).toArray) (o := i * 1) (v := .int .u64 (ys.getD i 0)) he rfl (by
      rw [List.getElem?_toArray, List.getElem?_map, List.getD_eq_getElem?_getD, Nat.mul_one, List.getElem?_eq_getElem hi.2]; rfl)
    have ih := run_items_u64 d he xs ys is (fun j hj => h j (by simp [hj]))
    have p3 := run_equalIn_int (P := P) w d e .u64 .u64 (xs.getD i 0) (ys.getD i 0) he
    unfold Op.eqItems
    simp only [Sem.run_bind, p1, p2, p3, Result.andThen_ok, List.all_cons]
    cases hb : (xs.getD i 0 == ys.getD i 0)
    · simp
    · simp only [Bool.not_true, Bool.false_eq_true, if_false, Bool.true_and]
      exact ih
end
theorem info_u64 : (Tryz.prog.info? 35).isSome = true := by kernel_rfl
theorem run_eq_x (d : Nat) (w : World) (xs ys : List Int) (hx : xs.length = 32) (hy : ys.length = 32) :
    (Op.equalIn (d + 2) 36 (.agg (xs.map (Value.int .u64)).toArray) (.agg (ys.map (Value.int .u64)).toArray)).run Tryz.prog w = .ok (xs == ys) w := by
  obtain ⟨i, hi⟩ := Option.isSome_iff_exists.1 info_u64
  rw [run_equalIn_array w (d + 1) _ _ Tryz.underlying36 hi, show Tryz.prog.cellsOf 35 = 1 by kernel_rfl, run_items_u64 w d Tryz.underlying35 xs ys _ (fun i hi => by have := List.mem_range.1 hi; omega), ← all_same xs ys (by omega), hx]
theorem size_x (w : World) : (sizeOf 36).run Tryz.prog w = .ok 32 w := by kernel_rfl
theorem agg_x (w : World) : (isAgg 36).run Tryz.prog w = .ok true w := by kernel_rfl
theorem part_x {h : Hrt} (hl : h.x.length = 32) (w : World) : (part 36 (hrtCells h) 1).run Tryz.prog w = .ok (.agg (h.x.map (Value.int .u64)).toArray) w := by
  have e : (hrtCells h).extract 1 33 = (h.x.map (Value.int .u64)).toArray := by
    apply Array.ext'
    rw [Array.toList_extract]
    unfold hrtCells hrtL
    show List.take (33 - 1) (List.drop 1 _) = _
    rw [List.drop_succ_cons, List.drop_zero, List.take_append_of_le_length (by simp [hl]), List.take_of_length_le (by simp [hl])]
  unfold part
  simp only [Sem.run_bind, agg_x, Result.andThen_ok, if_true, size_x, Sem.run_pure]
  rw [show 1 + 32 = 33 from rfl, e]
def fieldsB (l : List Field) : Bool := match l with
  | [f1, f2, f3] => f1.name != "_" && f2.name != "_" && f3.name != "_" && f1.type == 35 && f2.type == 36 && f3.type == 3 && f1.offset == 0 && f2.offset == 1 && f3.offset == 33
  | _ => false
theorem fields_ok : fieldsB (Tryz.prog.fieldsOf 38).toList = true := by kernel_rfl
theorem fields_hrt : ∃ f1 f2 f3 : Field, (Tryz.prog.fieldsOf 38).toList = [f1, f2, f3] ∧ (f1.name ≠ "_" ∧ f2.name ≠ "_" ∧ f3.name ≠ "_") ∧ (f1.type = 35 ∧ f2.type = 36 ∧ f3.type = 3) ∧ (f1.offset = 0 ∧ f2.offset = 1 ∧ f3.offset = 33) := by
  have h := fields_ok
  generalize (Tryz.prog.fieldsOf 38).toList = l at h
  unfold fieldsB at h
  split at h
  · simp only [Bool.and_eq_true, bne_iff_ne, beq_iff_eq] at h
    exact ⟨_, _, _, rfl, ⟨h.1.1.1.1.1.1.1.1, h.1.1.1.1.1.1.1.2, h.1.1.1.1.1.1.2⟩, ⟨h.1.1.1.1.1.2, h.1.1.1.1.2, h.1.1.1.2⟩, h.1.1.2, h.1.2, h.2⟩
  · cases h
theorem run_eq_hrt (a b : Hrt) (ha : a.x.length = 32) (hb : b.x.length = 32) (w : World) :
    (binOp .eql 38 (.agg (hrtCells a)) (.agg (hrtCells b))).run Tryz.prog w = .ok (.bool (hrtEq a b)) w := by
  obtain ⟨f1, f2, f3, hf, ⟨n1, n2, n3⟩, ⟨t1, t2, t3⟩, o1, o2, o3⟩ := fields_hrt
  have p1 := fun h : Hrt => run_part_flat (P := Tryz.prog) w (cs := hrtCells h) (o := 0) (v := .int .u64 h.pc) Tryz.underlying35 rfl (hrtC_pc h)
  have p2 := fun (h : Hrt) (hl : h.x.length = 32) => part_x hl w
  have p3 := fun (h : Hrt) (hl : h.x.length = 32) => run_part_flat (P := Tryz.prog) w (cs := hrtCells h) (o := 33) (v := .int .i64 h.cause) Tryz.underlying3 rfl (hrtC_cause hl)
  have e1 : (Op.equalIn 9999 35 (.int .u64 a.pc) (.int .u64 b.pc)).run Tryz.prog w = .ok (a.pc == b.pc) w := run_equalIn_int (P := Tryz.prog) w 9998 35 .u64 .u64 a.pc b.pc Tryz.underlying35
  have e2 : (Op.equalIn 9999 36 (.agg (a.x.map (Value.int .u64)).toArray) (.agg (b.x.map (Value.int .u64)).toArray)).run Tryz.prog w = .ok (a.x == b.x) w := run_eq_x 9997 w a.x b.x ha hb
  have e3 : (Op.equalIn 9999 3 (.int .i64 a.cause) (.int .i64 b.cause)).run Tryz.prog w = .ok (a.cause == b.cause) w := run_equalIn_int (P := Tryz.prog) w 9998 3 .i64 .i64 a.cause b.cause Tryz.underlying3
  rw [run_eql_struct, run_equalIn_struct w 9999 38 _ _ (by kernel_rfl) (by kernel_rfl), hf]
  unfold hrtEq
  simp only [Op.eqFields, n1, n2, n3, t1, t2, t3, o1, o2, o3, Sem.run_bind, p1, e1, Result.andThen_ok, ne_eq, not_false_iff, if_true]
  generalize (a.pc == b.pc) = u1 at *
  generalize (a.x == b.x) = u2 at *
  generalize (a.cause == b.cause) = u3 at *
  cases u1 <;> cases u2 <;> cases u3 <;> simp [Result.andThen, e2, e3, p2 a ha, p2 b hb, p3 a ha, p3 b hb]

def dnEq (a b : Dn) : Bool := [a.pc == b.pc, eqB a.inst b.inst, a.cause == b.cause, a.val == b.val, a.addr == b.addr, a.read == b.read, a.wrote == b.wrote, a.failed == b.failed].all id
def FldOk (P : Program) (w : World) (d : Nat) (xs ys : Array Value) (f : Field) (r : Bool) : Prop :=
  f.name ≠ "_" ∧ ∃ u v, (part f.type xs f.offset).run P w = .ok u w ∧ (part f.type ys f.offset).run P w = .ok v w ∧ (Op.equalIn d f.type u v).run P w = .ok r w
def FldsOk (P : Program) (w : World) (d : Nat) (xs ys : Array Value) : List Field → List Bool → Prop
  | [], [] => True
  | f :: fs, r :: rs => FldOk P w d xs ys f r ∧ FldsOk P w d xs ys fs rs
  | _, _ => False
theorem run_fields {P : Program} {w : World} {d : Nat} {xs ys : Array Value} : ∀ (fs : List Field) (rs : List Bool), FldsOk P w d xs ys fs rs → (Op.eqFields d xs ys fs).run P w = .ok (rs.all id) w
  | [], [], _ => by simp [Op.eqFields]
  | [], _ :: _, h => h.elim
  | _ :: _, [], h => h.elim
  | f :: fs, r :: rs, ⟨⟨hn, u, v, h1, h2, h3⟩, h⟩ => by
    have ih := run_fields fs rs h
    unfold Op.eqFields
    simp only [ne_eq, hn, not_false_iff, if_true, Sem.run_bind, h1, h2, h3, Result.andThen_ok, List.all_cons, id]
    cases r
    · simp
    · simp only [Bool.not_true, Bool.false_eq_true, if_false, Bool.true_and]
      exact ih
theorem fld_int {P : Program} {w : World} {d : Nat} {xs ys : Array Value} {f : Field} {k : IntKind} {a b : Int} (hn : f.name ≠ "_") (ht : P.underlying f.type = some (.int k)) (ha : xs[f.offset]? = some (.int k a)) (hb : ys[f.offset]? = some (.int k b)) : FldOk P w (d + 1) xs ys f (a == b) :=
  ⟨hn, _, _, run_part_flat w ht rfl ha, run_part_flat w ht rfl hb, run_equalIn_int w d f.type k k a b ht⟩
theorem fld_bool {P : Program} {w : World} {d : Nat} {xs ys : Array Value} {f : Field} {a b : Bool} (hn : f.name ≠ "_") (ht : P.underlying f.type = some .bool) (ha : xs[f.offset]? = some (.bool a)) (hb : ys[f.offset]? = some (.bool b)) : FldOk P w (d + 1) xs ys f (a == b) :=
  ⟨hn, _, _, run_part_flat w ht rfl ha, run_part_flat w ht rfl hb, run_equalIn_bool' w d f.type a b ht⟩
theorem part_inst (d : Dn) (w : World) : (part 40 (dnCells d) 1).run Tryz.prog w = .ok (.agg (insCells d.inst)) w := by kernel_rfl
theorem run_equal_inst (i k : Ins) (w : World) : (Op.equalIn 9999 40 (.agg (insCells i)) (.agg (insCells k))).run Tryz.prog w = .ok (eqB i k) w := by
  have e : ((Tryz.prog.fieldsOf 40).toList.all fun f => f.name == "_" || cellEq (insCells i)[f.offset]? (insCells k)[f.offset]?) = eqB i k := by kernel_rfl
  rw [run_equalIn_struct w 9998 40 _ _ (by kernel_rfl) (by kernel_rfl), run_eqFields_flat w 9997 _ (by kernel_rfl), e]
def dnFields : List (TypeId × Nat) := [(35, 0), (40, 1), (3, 10), (35, 11), (35, 12), (35, 13), (35, 14), (4, 15)]
theorem dn_fields : (Tryz.prog.fieldsOf 44).toList.map (fun f => (f.type, f.offset)) = dnFields ∧ ((Tryz.prog.fieldsOf 44).toList.all fun f => f.name != "_") = true := ⟨by kernel_rfl, by kernel_rfl⟩
theorem flds_dn (a b : Dn) (w : World) : ∀ fs : List Field, fs.map (fun f => (f.type, f.offset)) = dnFields → (fs.all fun f => f.name != "_") = true →
    FldsOk Tryz.prog w 9999 (dnCells a) (dnCells b) fs [a.pc == b.pc, eqB a.inst b.inst, a.cause == b.cause, a.val == b.val, a.addr == b.addr, a.read == b.read, a.wrote == b.wrote, a.failed == b.failed] := by
  intro fs h hn
  have hl : fs.length = 8 := by
    have := congrArg List.length h
    rw [List.length_map] at this
    exact this
  match fs, hl with
  | [f1, f2, f3, f4, f5, f6, f7, f8], _ =>
    simp only [List.map_cons, List.map_nil, dnFields, List.cons.injEq, Prod.mk.injEq, and_true] at h
    simp only [List.all_cons, List.all_nil, Bool.and_eq_true, bne_iff_ne, and_true] at hn
    obtain ⟨⟨t1, o1⟩, ⟨t2, o2⟩, ⟨t3, o3⟩, ⟨t4, o4⟩, ⟨t5, o5⟩, ⟨t6, o6⟩, ⟨t7, o7⟩, ⟨t8, o8⟩⟩ := h
    obtain ⟨n1, n2, n3, n4, n5, n6, n7, n8⟩ := hn
    refine ⟨fld_int n1 (k := .u64) (by rw [t1]; exact Tryz.underlying35) (by rw [o1]; rfl) (by rw [o1]; rfl), ?_, fld_int n3 (k := .i64) (by rw [t3]; exact Tryz.underlying3) (by rw [o3]; rfl) (by rw [o3]; rfl),
      fld_int n4 (k := .u64) (by rw [t4]; exact Tryz.underlying35) (by rw [o4]; rfl) (by rw [o4]; rfl), fld_int n5 (k := .u64) (by rw [t5]; exact Tryz.underlying35) (by rw [o5]; rfl) (by rw [o5]; rfl),
      fld_int n6 (k := .u64) (by rw [t6]; exact Tryz.underlying35) (by rw [o6]; rfl) (by rw [o6]; rfl), fld_int n7 (k := .u64) (by rw [t7]; exact Tryz.underlying35) (by rw [o7]; rfl) (by rw [o7]; rfl),
      fld_bool n8 (by rw [t8]; exact Tryz.underlying4) (by rw [o8]; rfl) (by rw [o8]; rfl), trivial⟩
    refine ⟨n2, _, _, by rw [t2, o2]; exact part_inst a w, by rw [t2, o2]; exact part_inst b w, by rw [t2]; exact run_equal_inst _ _ w⟩
theorem run_equal_dn (a b : Dn) (w : World) : (Op.equalIn 10000 44 (.agg (dnCells a)) (.agg (dnCells b))).run Tryz.prog w = .ok (dnEq a b) w := by
  rw [run_equalIn_struct w 9999 44 _ _ (by kernel_rfl) (by kernel_rfl), run_fields _ _ (flds_dn a b w _ dn_fields.1 dn_fields.2)]
  rfl
theorem run_eq_dn (a b : Dn) (w : World) : (binOp .eql 44 (.agg (dnCells a)) (.agg (dnCells b))).run Tryz.prog w = .ok (.bool (dnEq a b)) w := by
  rw [run_eql_struct, run_equal_dn]; rfl
theorem dnEq_iff (a b : Dn) : dnEq a b = true ↔ a = b := by
  obtain ⟨p1, i1, c1, v1, a1, r1, w1, f1⟩ := a
  obtain ⟨p2, i2, c2, v2, a2, r2, w2, f2⟩ := b
  unfold dnEq
  simp [eqB_iff]
theorem dnEq_self (a : Dn) : dnEq a a = true := (dnEq_iff a a).2 rfl
end Go.Proofs.YtolmecnjolfjgaaGreatDoor
namespace Go.Proofs.YtolmecnjolfjgaaGreatDoor
open Go.RowKit

section
variable {P : Program} {ops : Array Oper} {Q : Exit → Act → World → Prop} {rest : List Oper} {o : Oper} {a : Act} {w : World}
/-- An operation that is carried out and gives a value. -/
theorem val_arm {v : Value} (hw : Region.wanted o (yielded ops a.tmps) = true) (hx : (execOp a.eval o).run P w = .ok (.value v) w) (h : wpList P ops Q rest (a.put o.dst v) w) : wpList P ops Q (o :: rest) a w :=
  BigFrame.wpList_want hw fun K hK => by
    unfold Oper.wp
    rw [hx]
    exact hK _ _ h
theorem exec_load_all {cs : Array Value} {t : TypeId} {g : Nat} (ty : TypeId) (x : Operand) (ho : o.op = .load ty x) (hx : a.eval x = .pointer (some ⟨g, 0, none⟩)) (hb : Blk cs t g w) {d : TypeDesc} (hu : P.underlying ty = some d) (hd : (match d with | .struct _ | .array _ _ => true | _ => false) = true)
    (hz : (P.info? ty).map (·.size) = some cs.size) : (execOp a.eval o).run P w = .ok (.value (.agg cs)) w := by
  unfold execOp
  simp only [ho, hx, Instr.loadAt, Instr.sureAddr, Sem.run_bind, Sem.run_pure, Result.andThen_ok, hb.var hu hd hz]
theorem exec_cmp {op : BinOp} {t u : TypeId} {x y : Operand} {xs ys : Array Value} {v : Value} (ho : o.op = .binOp op t x y u) (hm : P.eqGuardType P.depth t = false) (hx : a.eval x = .agg xs) (hy : a.eval y = .agg ys) (h : (binOp op t (.agg xs) (.agg ys)).run P w = .ok v w) :
    (execOp a.eval o).run P w = .ok (.value v) w := by
  have hg := run_eqGuard_agg (P := P) (w := w) op t x y xs ys hm
  unfold execOp
  simp only [ho, hx, hy, Sem.run_bind, Sem.run_pure, Result.andThen_ok, hg, h]
end
theorem guard_hrt : Tryz.prog.eqGuardType Tryz.prog.depth 38 = false := by kernel_rfl
theorem guard_dn : Tryz.prog.eqGuardType Tryz.prog.depth 44 = false := by kernel_rfl
/-- A hart and what was done, into two new blocks. -/
theorem two_new (w : World) (h : Hrt) (d : Dn) (hl : h.x.length = 32) : ∃ w4 w5,
    (storeVar 38 ⟨w.heap.size, 0, none⟩ (.agg (hrtCells h))).run Tryz.prog ((w.alloc (.cells (hrtCells zerH) 38)).alloc (.cells (dnCells noDn) 44)) = .ok () w4 ∧
    (storeVar 44 ⟨w.heap.size + 1, 0, none⟩ (.agg (dnCells d))).run Tryz.prog w4 = .ok () w5 ∧ Blk (hrtCells h) 38 w.heap.size w5 ∧ Blk (dnCells d) 44 (w.heap.size + 1) w5 ∧ Below w.heap.size w w5 := by
  have b1 : Below w.heap.size w (w.alloc (.cells (hrtCells zerH) 38)) := (Below.refl _ _).alloc (Nat.le_refl _) _
  have z1 : (w.alloc (.cells (hrtCells zerH) 38)).heap.size = w.heap.size + 1 := by simp
  have b2 : Below w.heap.size w ((w.alloc (.cells (hrtCells zerH) 38)).alloc (.cells (dnCells noDn) 44)) := b1.alloc (by omega) _
  have c1 := (Blk.new (hrtCells zerH) 38 w).alloc (.cells (dnCells noDn) 44)
  have c2 := Blk.new (dnCells noDn) 44 (w.alloc (.cells (hrtCells zerH) 38))
  rw [z1] at c2
  obtain ⟨w4, e4, b4, k4⟩ := (Has.of c1 (n := 34) rfl).put (P := Tryz.prog) (hrtCells h) (hrtC_size hl) (hrt_one h) (ty := 38) (hrt_info hl)
  have c3 := c2.far k4 (by omega)
  obtain ⟨w5, e5, b5, k5⟩ := (Has.of c3 (n := 16) rfl).put (P := Tryz.prog) (dnCells d) rfl (dn_one d) (ty := 44) (by kernel_rfl)
  refine ⟨w4, w5, e4, e5, b4.far k5 (by omega), b5, ?_⟩
  have b3 : Below w.heap.size w w4 := b2.grown k4 (by simp; omega) (fun q hq => by cases hq; exact Nat.le_refl _)
  exact b3.grown k5 b3.size (fun q hq => by cases hq; omega)

theorem tgt_nn (i : Ins) : 0 ≤ tgt i ∧ tgt i ≤ 31 := by
  unfold tgt regV
  repeat' split
  all_goals omega
theorem zer_x0 {h : Hrt} (hl : h.x.length = 32) : (zerX h).x.getD 0 0 = 0 := by
  unfold zerX
  simp [List.getD_eq_getElem?_getD, hl]
theorem zer_id {h : Hrt} (hl : h.x.length = 32) (h0 : h.x.getD 0 0 = 0) : zerX h = h := by
  obtain ⟨p, x, c⟩ := h
  unfold zerX
  simp only at *
  congr 1
  match x, hl, h0 with
  | y :: l, _, h0 =>
    have : y = 0 := by simpa using h0
    subst this
    rfl
theorem do_x0 {h : Hrt} {d : Dn} {read : Int} {failed : Bool} (h0 : h.x.getD 0 0 = 0) : (doH h d read failed).x.getD 0 0 = 0 := by
  have ht := tgt_nn d.inst
  unfold doH
  split
  · simp only
    split
    · exact h0
    · rw [List.getD_eq_getElem?_getD, List.getElem?_set_ne (by omega), ← List.getD_eq_getElem?_getD]
      exact h0
  · exact h0
theorem stp_wh {h : Hrt} (hw : Wh h) (B : List Int) (read : Int) (failed : Bool) : Wh (stpH h B read failed) := by
  unfold stpH
  split
  · exact do_wh (zer_wh hw) _ (beg_cause _ _) _ _
  · exact zer_wh hw
theorem stp_x0 {h : Hrt} (hw : Wh h) (B : List Int) (read : Int) (failed : Bool) : (stpH h B read failed).x.getD 0 0 = 0 := by
  unfold stpH
  split
  · exact do_x0 (zer_x0 hw.len)
  · exact zer_x0 hw.len
theorem stp_stay {h : Hrt} (hl : h.x.length = 32) (h0 : h.x.getD 0 0 = 0) (hc : h.cause ≠ 0) (B : List Int) (read : Int) (failed : Bool) : stpH h B read failed = h ∧ stpD h B read failed = noDn := by
  unfold stpH stpD
  rw [if_neg hc, if_neg hc]
  exact ⟨zer_id hl h0, rfl⟩
end Go.Proofs.YtolmecnjolfjgaaGreatDoor
namespace Go.Proofs.YtolmecnjolfjgaaGreatDoor
open Go.RowKit

set_option maxHeartbeats 4000000 in
theorem stays_law {W : World} (T : TabQ W) (h : Hrt) (hw : Wh h) (A : Option Addr) (cap : Nat) (B : List Int) (hb : ∀ b ∈ B, 0 ≤ b ∧ b < 256) (hn : B.length ≤ 9223372036854775807) (hc : B.length ≤ cap) (hc2 : cap ≤ 9223372036854775807) (hr : Rd W W.heap.size A (cellsB B)) (read : Int) (hrd : U64 read) (failed : Bool) :
    Calls Tryz.prog 7 #[.agg (hrtCells h), .slice A B.length cap, .int .u64 read, .bool failed] W fun e w' => e = .returned (.bool true) ∧ Below W.heap.size W w' := by
  have KA := fun x (hx : BW W x) => (alive11_any T x hx).mono fun e w' ⟨h1, _, h3⟩ => (⟨h1, h3⟩ : _ ∧ Below x.heap.size x w')
  have H1 : Hid (Blk (hrtCells h) 38 W.heap.size (W.alloc (.cells (hrtCells h) 38))) := Blk.new _ _ _
  have HB1 : Hid (BW W (W.alloc (.cells (hrtCells h) 38))) := BW.new (Below.refl _ _) _
  by_cases h1 : B.length ≤ 1024
  · have d1 : decide ((1024 : Int) < B.length) = false := decide_eq_false (by omega)
    have KS1 := fun x (hx : BW W x) => step_c h A cap B read failed x (T.t11.below hx) (ImgAt.on (⟨hr, hb, h1, hc, hc2⟩ : ImgAt W A cap B) hx) hw hrd
    have KS2 := fun x (hx : BW W x) => step_c (stpH h B read failed) A cap B read failed x (T.t11.below hx) (ImgAt.on (⟨hr, hb, h1, hc, hc2⟩ : ImgAt W A cap B) hx) (stp_wh hw B read failed) hrd
    have hl := (stp_wh hw B read failed).len
    have hl2 := (stp_wh (stp_wh hw B read failed) B read failed).len
    have HX0 := stp_x0 hw B read failed
    have HST := Lib.hid (fun hcz => stp_stay (h := stpH h B read failed) hl HX0 hcz B read failed)
    have hl0 := hw.len
    generalize stpH h B read failed = a at *
    generalize stpD h B read failed = d at *
    have q1 := hrtC_x hl (r := 0) (by omega)
    rw [HX0] at q1
    have q33 := hrtC_cause hl
    have HI0 := Lib.hid (hrt_info hl0)
    have HI1 := Lib.hid (hrt_info hl)
    generalize stpH a B read failed = b at *
    generalize stpD a B read failed = k at *
    have HI2 := Lib.hid (hrt_info hl2)
    have KW1 := fun x => two_new x a d hl
    have KW2 := fun x => two_new x b k hl2
    have KE := Lib.hid (run_eq_hrt a b hl hl2)
    have KF := Lib.hid (run_eq_dn k noDn)
    have HL := Lib.hid hl
    clear T hb hr hw hl0 hl hl2 HX0
    unfold RetHD at KS1 KS2
    go_enter Tryz.func7, Tryz.ntmps7
    go_upto_region 1 with (fail)
    generalize W.alloc (.cells _ 38) = w1 at *
    go_upto_region 5 with (first
      | (go_at_call 18; refine (KA _ HB1.out).mono ?_; rintro e w2 ⟨rfl, hb2⟩; have HB2 := Lib.hid (HB1.out.on hb2); have H2 := H1.out.on hb2; clear hb2))
    go_upto_region 6 with (first
      | (with_reducible refine load_blk (o := ⟨some 20, _, _, _, _, _⟩) rfl 38 (.tmp 4) rfl H2 rfl Tryz.underlying38 rfl HI0.out ?_)
      | (go_at_call 21; refine (KS1 _ HB2.out).mono ?_; rintro e w3 ⟨rfl, hb3⟩; have HB3 := HB2.out.on hb3; clear hb3; obtain ⟨w4, w5, e4, e5, b4, b5, hb5⟩ := KW1 w3; have HB5 := Lib.hid (HB3.on hb5); clear HB3 hb5)
      | (refine store_blk (o := ⟨none, .store _ (.tmp 9) (.tmp 25), _, _, _, _⟩) rfl 38 (.tmp 9) (.tmp 25) rfl rfl rfl e4 ?_)
      | (refine store_blk (o := ⟨none, .store _ (.tmp 10) (.tmp 26), _, _, _, _⟩) rfl 44 (.tmp 10) (.tmp 26) rfl rfl rfl e5 ?_))
    clear e4 e5 H2 HB2 H1 HB1 KS1 KW1
    obtain ⟨g5, hg5⟩ : ∃ g, w3.heap.size = g := ⟨_, rfl⟩
    rw [hg5] at b4 b5 ⊢
    clear hg5
    have p1 := (b4.cell 1).trans q1
    have p33 := (b4.cell 33).trans q33
    clear q1 q33 b5
    go_upto_region 8 with (fail)
    go_upto_region 9 with (first
      | (with_reducible refine load_blk (o := ⟨some 32, _, _, _, _, _⟩) rfl 38 (.tmp 9) rfl b4 rfl Tryz.underlying38 rfl HI1.out ?_)
      | (go_at_call 21; refine (KS2 _ HB5.out).mono ?_; rintro e w6 ⟨rfl, hb6⟩; have HB6 := HB5.out.on hb6; have B6 := b4.on hb6; clear hb6; obtain ⟨w7, w8, e7, e8, b7, b8, hb8⟩ := KW2 w6; have HB8 := Lib.hid (HB6.on hb8); have B8 := B6.on hb8; clear HB6 B6 hb8)
      | (refine store_blk (o := ⟨none, .store _ (.tmp 11) (.tmp 37), _, _, _, _⟩) rfl 38 (.tmp 11) (.tmp 37) rfl rfl rfl e7 ?_)
      | (refine store_blk (o := ⟨none, .store _ (.tmp 12) (.tmp 38), _, _, _, _⟩) rfl 44 (.tmp 12) (.tmp 38) rfl rfl rfl e8 ?_))
    clear e7 e8 HB5 b4 KS2 KW2 p1 p33
    obtain ⟨g8, hg8⟩ : ∃ g, w6.heap.size = g := ⟨_, rfl⟩
    rw [hg8] at b7 b8 ⊢
    clear hg8
    have KA9 := KA _ HB8.out
    clear KA
    have q33 : (hrtCells a)[33]? = some (.int .i64 a.cause) := hrtC_cause HL.out
    by_cases hcz : a.cause = 0
    · have hz : (a.cause == 0) = true := by simpa using hcz
      go_wp2_with (first
        | (go_at_call 18; refine KA9.mono ?_; rintro e w9 ⟨rfl, hb9⟩; have HB9 := Lib.hid (HB8.out.on hb9); have B9 := B8.on hb9; have p33 := (B9.cell 33).trans q33; clear hb9))
      go_ret
      exact ⟨rfl, HB9.out⟩
    · have hz : (a.cause == 0) = false := by simpa using hcz
      obtain ⟨rfl, rfl⟩ := HST.out hcz
      have KE2 := KE.out
      have KF2 := KF.out
      rw [hrtEq_self] at KE2
      rw [dnEq_self] at KF2
      go_wp2_with (first
        | (go_at_call 18; refine KA9.mono ?_; rintro e w9 ⟨rfl, hb9⟩; have HB9 := Lib.hid (HB8.out.on hb9); have B9 := B8.on hb9; have B7 := b7.on hb9; have B8' := b8.on hb9; have p33 := (B9.cell 33).trans q33; clear hb9)
        | (refine val_arm (o := ⟨some 45, _, _, _, _, _⟩) (by kernel_rfl) (exec_load_all 38 (.tmp 9) rfl rfl B9 Tryz.underlying38 rfl HI1.out) ?_)
        | (refine val_arm (o := ⟨some 46, _, _, _, _, _⟩) (by kernel_rfl) (exec_load_all 38 (.tmp 11) rfl rfl B7 Tryz.underlying38 rfl HI1.out) ?_)
        | (refine val_arm (o := ⟨some 47, _, _, _, _, _⟩) (by kernel_rfl) (exec_cmp rfl guard_hrt rfl rfl (KE2 _)) ?_)
        | (refine val_arm (o := ⟨some 49, _, _, _, _, _⟩) (by kernel_rfl) (exec_load_all 44 (.tmp 12) rfl rfl B8' Tryz.underlying44 rfl (by kernel_rfl)) ?_)
        | (refine val_arm (o := ⟨some 51, _, _, _, _, _⟩) (by kernel_rfl) (exec_cmp rfl guard_dn rfl rfl (KF2 _)) ?_))
      go_ret
      exact ⟨rfl, HB9.out⟩
  · have d1 : decide ((1024 : Int) < B.length) = true := decide_eq_true (by omega)
    clear T hb hr hw
    go_enter Tryz.func7, Tryz.ntmps7
    go_upto_region 1 with (fail)
    generalize W.alloc (.cells _ 38) = w1 at *
    go_upto_region 3 with (first
      | (go_at_call 18; refine (KA _ HB1.out).mono ?_; rintro e w2 ⟨rfl, hb2⟩; have HB2 := Lib.hid (HB1.out.on hb2); clear hb2))
    go_wp2_with (first
      | (go_at_call 18; refine (KA _ HB2.out).mono ?_; rintro e w3 ⟨rfl, hb3⟩; have HB3 := Lib.hid (HB2.out.on hb3); clear hb3))
    go_ret
    exact ⟨rfl, HB3.out⟩
end Go.Proofs.YtolmecnjolfjgaaGreatDoor
