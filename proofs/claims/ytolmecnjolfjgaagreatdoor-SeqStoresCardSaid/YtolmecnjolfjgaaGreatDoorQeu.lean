/- '==' on harts and on what was done. Layer 11's laws: arms of the walk, new blocks for what Step gives; a step's plain facts. What a hart does alone is what steps do: plain. For SeqTogether: drawn regions with new blocks, the list's parts. -/
import Derived.Test.YtolmecnjolfjgaaGreatDoorQ0u
import Derived.Test.YtolmecnjolfjgaaGreatDoorBau
import Derived.ChangeKeysEq
import Derived.WalkKit
import Derived.Test.YtolmecnjolfjgaaGreatDoorAalu
import Derived.Deep.MidRow
set_option linter.unusedVariables false
set_option maxRecDepth 100000
namespace Go.Proofs.YtolmecnjolfjgaaGreatDoor
open Go.RowKit

def hrtEq (a b : Hrt) : Bool := (a.pc == b.pc) && ((a.x == b.x) && (a.cause == b.cause))
theorem hrtEq_iff (a b : Hrt) : hrtEq a b = true ↔ a = b := by
  obtain ⟨p, x, c⟩ := a
  obtain ⟨q, y, d⟩ := b
  unfold hrtEq
  simp
theorem hrtEq_self (a : Hrt) : hrtEq a a = true := (hrtEq_iff a a).2 rfl
theorem all_same (xs ys : List Int) (h : xs.length = ys.length) : ((List.range xs.length).all fun i => xs.getD i 0 == ys.getD i 0) = (xs == ys) := by
  rw [Bool.eq_iff_iff, List.all_eq_true, beq_iff_eq]
  constructor
  · intro hq
    refine List.ext_getElem h fun i h1 h2 => ?_
    have := hq i (List.mem_range.2 h1)
    simpa [List.getD_eq_getElem?_getD, List.getElem?_eq_getElem h1, List.getElem?_eq_getElem h2] using this
  · rintro rfl i _
    simp
section
variable {P : Program} (w : World)
theorem run_items_u64 (d : Nat) {e : TypeId} (he : P.underlying e = some (.int .u64)) (xs ys : List Int) : ∀ is : List Nat, (∀ i ∈ is, i < xs.length ∧ i < ys.length) →
    (Op.eqItems (d + 1) e 1 (xs.map (Value.int .u64)).toArray (ys.map (Value.int .u64)).toArray is).run P w = .ok (is.all fun i => xs.getD i 0 == ys.getD i 0) w
  | [], _ => by simp [Op.eqItems]
  | i :: is, h => by
    have hi := h i (by simp)
    have p1 := run_part_flat (P := P) w (cs := (xs.map (Value.int .u64)).toArray) (o := i * 1) (v := .int .u64 (xs.getD i 0)) he rfl (by
      rw [List.getElem?_toArray, List.getElem?_map, List.getD_eq_getElem?_getD, Nat.mul_one, List.getElem?_eq_getElem hi.1]; rfl)
    have p2 := run_part_flat (P := P) w (cs := (ys.map (Value.int .u64)).toArray) (o := i * 1) (v := .int .u64 (ys.getD i 0)) he rfl (by
      rw [List.getElem?_toArray, List.getElem?_map, List.getD_eq_getElem?_getD, Nat.mul_one, List.getElem?_eq_getElem hi.2]; rfl)
    have ih := run_items_u64 d he xs ys is (fun j hj => h j (by simp [hj]))
    have p3 := run_equalIn_int (P := P) w d e .u64 .u64 (xs.getD i 0) (ys.getD i 0) he
    unfold Op.eqItems
    simp only [Sem.run_bind, p1, p2, p3, Result.andThen_ok, List.all_cons]
    cases hb : (xs.getD i 0 == ys.getD i 0)
    · simp
    · simp only [Bool.not_true, Bool.false_eq_true, if_false, Bool.true_and]
      exact ih
end
theorem info_u64 : (Tryz.prog.info? 35).isSome = true := by kernel_rfl
theorem run_eq_x (d : Nat) (w : World) (xs ys : List Int) (hx : xs.length = 32) (hy : ys.length = 32) :
    (Op.equalIn (d + 2) 36 (.agg (xs.map (Value.int .u64)).toArray) (.agg (ys.map (Value.int .u64)).toArray)).run Tryz.prog w = .ok (xs == ys) w := by
  obtain ⟨i, hi⟩ := Option.isSome_iff_exists.1 info_u64
  rw [run_equalIn_array w (d + 1) _ _ Tryz.underlying36 hi, show Tryz.prog.cellsOf 35 = 1 by kernel_rfl, run_items_u64 w d Tryz.underlying35 xs ys _ (fun i hi => by have := List.mem_range.1 hi; omega), ← all_same xs ys (by omega), hx]
theorem size_x (w : World) : (sizeOf 36).run Tryz.prog w = .ok 32 w := by kernel_rfl
theorem agg_x (w : World) : (isAgg 36).run Tryz.prog w = .ok true w := by kernel_rfl
theorem part_x {h : Hrt} (hl : h.x.length = 32) (w : World) : (part 36 (hrtCells h) 1).run Tryz.prog w = .ok (.agg (h.x.map (Value.int .u64)).toArray) w := by
  have e : (hrtCells h).extract 1 33 = (h.x.map (Value.int .u64)).toArray := by
    apply Array.ext'
    rw [Array.toList_extract]
    unfold hrtCells hrtL
    show List.take (33 - 1) (List.drop 1 _) = _
    rw [List.drop_succ_cons, List.drop_zero, List.take_append_of_le_length (by simp [hl]), List.take_of_length_le (by simp [hl])]
  unfold part
  simp only [Sem.run_bind, agg_x, Result.andThen_ok, if_true, size_x, Sem.run_pure]
  rw [show 1 + 32 = 33 from rfl, e]
def fieldsB (l : List Field) : Bool := match l with
  | [f1, f2, f3] => f1.name != "_" && f2.name != "_" && f3.name != "_" && f1.type == 35 && f2.type == 36 && f3.type == 3 && f1.offset == 0 && f2.offset == 1 && f3.offset == 33
  | _ => false
theorem fields_ok : fieldsB (Tryz.prog.fieldsOf 38).toList = true := by kernel_rfl
theorem fields_hrt : ∃ f1 f2 f3 : Field, (Tryz.prog.fieldsOf 38).toList = [f1, f2, f3] ∧ (f1.name ≠ "_" ∧ f2.name ≠ "_" ∧ f3.name ≠ "_") ∧ (f1.type = 35 ∧ f2.type = 36 ∧ f3.type = 3) ∧ (f1.offset = 0 ∧ f2.offset = 1 ∧ f3.offset = 33) := by
  have h := fields_ok
  generalize (Tryz.prog.fieldsOf 38).toList = l at h
  unfold fieldsB at h
  split at h
  · simp only [Bool.and_eq_true, bne_iff_ne, beq_iff_eq] at h
    exact ⟨_, _, _, rfl, ⟨h.1.1.1.1.1.1.1.1, h.1.1.1.1.1.1.1.2, h.1.1.1.1.1.1.2⟩, ⟨h.1.1.1.1.1.2, h.1.1.1.1.2, h.1.1.1.2⟩, h.1.1.2, h.1.2, h.2⟩
  · cases h
theorem run_eq_hrt (a b : Hrt) (ha : a.x.length = 32) (hb : b.x.length = 32) (w : World) :
    (binOp .eql 38 (.agg (hrtCells a)) (.agg (hrtCells b))).run Tryz.prog w = .ok (.bool (hrtEq a b)) w := by
  obtain ⟨f1, f2, f3, hf, ⟨n1, n2, n3⟩, ⟨t1, t2, t3⟩, o1, o2, o3⟩ := fields_hrt
  have p1 := fun h : Hrt => run_part_flat (P := Tryz.prog) w (cs := hrtCells h) (o := 0) (v := .int .u64 h.pc) Tryz.underlying35 rfl (hrtC_pc h)
  have p2 := fun (h : Hrt) (hl : h.x.length = 32) => part_x hl w
  have p3 := fun (h : Hrt) (hl : h.x.length = 32) => run_part_flat (P := Tryz.prog) w (cs := hrtCells h) (o := 33) (v := .int .i64 h.cause) Tryz.underlying3 rfl (hrtC_cause hl)
  have e1 : (Op.equalIn 9999 35 (.int .u64 a.pc) (.int .u64 b.pc)).run Tryz.prog w = .ok (a.pc == b.pc) w := run_equalIn_int (P := Tryz.prog) w 9998 35 .u64 .u64 a.pc b.pc Tryz.underlying35
  have e2 : (Op.equalIn 9999 36 (.agg (a.x.map (Value.int .u64)).toArray) (.agg (b.x.map (Value.int .u64)).toArray)).run Tryz.prog w = .ok (a.x == b.x) w := run_eq_x 9997 w a.x b.x ha hb
  have e3 : (Op.equalIn 9999 3 (.int .i64 a.cause) (.int .i64 b.cause)).run Tryz.prog w = .ok (a.cause == b.cause) w := run_equalIn_int (P := Tryz.prog) w 9998 3 .i64 .i64 a.cause b.cause Tryz.underlying3
  rw [run_eql_struct, run_equalIn_struct w 9999 38 _ _ (by kernel_rfl) (by kernel_rfl), hf]
  unfold hrtEq
  simp only [Op.eqFields, n1, n2, n3, t1, t2, t3, o1, o2, o3, Sem.run_bind, p1, e1, Result.andThen_ok, ne_eq, not_false_iff, if_true]
  generalize (a.pc == b.pc) = u1 at *
  generalize (a.x == b.x) = u2 at *
  generalize (a.cause == b.cause) = u3 at *
  cases u1 <;> cases u2 <;> cases u3 <;> simp [Result.andThen, e2, e3, p2 a ha, p2 b hb, p3 a ha, p3 b hb]

def dnEq (a b : Dn) : Bool := [a.pc == b.pc, eqB a.inst b.inst, a.cause == b.cause, a.val == b.val, a.addr == b.addr, a.read == b.read, a.wrote == b.wrote, a.failed == b.failed].all id
def FldOk (P : Program) (w : World) (d : Nat) (xs ys : Array Value) (f : Field) (r : Bool) : Prop :=
  f.name ≠ "_" ∧ ∃ u v, (part f.type xs f.offset).run P w = .ok u w ∧ (part f.type ys f.offset).run P w = .ok v w ∧ (Op.equalIn d f.type u v).run P w = .ok r w
def FldsOk (P : Program) (w : World) (d : Nat) (xs ys : Array Value) : List Field → List Bool → Prop
  | [], [] => True
  | f :: fs, r :: rs => FldOk P w d xs ys f r ∧ FldsOk P w d xs ys fs rs
  | _, _ => False
theorem run_fields {P : Program} {w : World} {d : Nat} {xs ys : Array Value} : ∀ (fs : List Field) (rs : List Bool), FldsOk P w d xs ys fs rs → (Op.eqFields d xs ys fs).run P w = .ok (rs.all id) w
  | [], [], _ => by simp [Op.eqFields]
  | [], _ :: _, h => h.elim
  | _ :: _, [], h => h.elim
  | f :: fs, r :: rs, ⟨⟨hn, u, v, h1, h2, h3⟩, h⟩ => by
    have ih := run_fields fs rs h
    unfold Op.eqFields
    simp only [ne_eq, hn, not_false_iff, if_true, Sem.run_bind, h1, h2, h3, Result.andThen_ok, List.all_cons, id]
    cases r
    · simp
    · simp only [Bool.not_true, Bool.false_eq_true, if_false, Bool.true_and]
      exact ih
theorem fld_int {P : Program} {w : World} {d : Nat} {xs ys : Array Value} {f : Field} {k : IntKind} {a b : Int} (hn : f.name ≠ "_") (ht : P.underlying f.type = some (.int k)) (ha : xs[f.offset]? = some (.int k a)) (hb : ys[f.offset]? = some (.int k b)) : FldOk P w (d + 1) xs ys f (a == b) :=
  ⟨hn, _, _, run_part_flat w ht rfl ha, run_part_flat w ht rfl hb, run_equalIn_int w d f.type k k a b ht⟩
theorem fld_bool {P : Program} {w : World} {d : Nat} {xs ys : Array Value} {f : Field} {a b : Bool} (hn : f.name ≠ "_") (ht : P.underlying f.type = some .bool) (ha : xs[f.offset]? = some (.bool a)) (hb : ys[f.offset]? = some (.bool b)) : FldOk P w (d + 1) xs ys f (a == b) :=
  ⟨hn, _, _, run_part_flat w ht rfl ha, run_part_flat w ht rfl hb, run_equalIn_bool' w d f.type a b ht⟩
theorem part_inst (d : Dn) (w : World) : (part 40 (dnCells d) 1).run Tryz.prog w = .ok (.agg (insCells d.inst)) w := by kernel_rfl
theorem run_equal_inst (i k : Ins) (w : World) : (Op.equalIn 9999 40 (.agg (insCells i)) (.agg (insCells k))).run Tryz.prog w = .ok (eqB i k) w := by
  have e : ((Tryz.prog.fieldsOf 40).toList.all fun f => f.name == "_" || cellEq (insCells i)[f.offset]? (insCells k)[f.offset]?) = eqB i k := by kernel_rfl
  rw [run_equalIn_struct w 9998 40 _ _ (by kernel_rfl) (by kernel_rfl), run_eqFields_flat w 9997 _ (by kernel_rfl), e]
def dnFields : List (TypeId × Nat) := [(35, 0), (40, 1), (3, 10), (35, 11), (35, 12), (35, 13), (35, 14), (4, 15)]
theorem dn_fields : (Tryz.prog.fieldsOf 44).toList.map (fun f => (f.type, f.offset)) = dnFields ∧ ((Tryz.prog.fieldsOf 44).toList.all fun f => f.name != "_") = true := ⟨by kernel_rfl, by kernel_rfl⟩
theorem flds_dn (a b : Dn) (w : World) : ∀ fs : List Field, fs.map (fun f => (f.type, f.offset)) = dnFields → (fs.all fun f => f.name != "_") = true →
    FldsOk Tryz.prog w 9999 (dnCells a) (dnCells b) fs [a.pc == b.pc, eqB a.inst b.inst, a.cause == b.cause, a.val == b.val, a.addr == b.addr, a.read == b.read, a.wrote == b.wrote, a.failed == b.failed] := by
  intro fs h hn
  have hl : fs.length = 8 := by
    have := congrArg List.length h
    rw [List.length_map] at this
    exact this
  match fs, hl with
  | [f1, f2, f3, f4, f5, f6, f7, f8], _ =>
    simp only [List.map_cons, List.map_nil, dnFields, List.cons.injEq, Prod.mk.injEq, and_true] at h
    simp only [List.all_cons, List.all_nil, Bool.and_eq_true, bne_iff_ne, and_true] at hn
    obtain ⟨⟨t1, o1⟩, ⟨t2, o2⟩, ⟨t3, o3⟩, ⟨t4, o4⟩, ⟨t5, o5⟩, ⟨t6, o6⟩, ⟨t7, o7⟩, ⟨t8, o8⟩⟩ := h
    obtain ⟨n1, n2, n3, n4, n5, n6, n7, n8⟩ := hn
    refine ⟨fld_int n1 (k := .u64) (by rw [t1]; exact Tryz.underlying35) (by rw [o1]; rfl) (by rw [o1]; rfl), ?_, fld_int n3 (k := .i64) (by rw [t3]; exact Tryz.underlying3) (by rw [o3]; rfl) (by rw [o3]; rfl),
      fld_int n4 (k := .u64) (by rw [t4]; exact Tryz.underlying35) (by rw [o4]; rfl) (by rw [o4]; rfl), fld_int n5 (k := .u64) (by rw [t5]; exact Tryz.underlying35) (by rw [o5]; rfl) (by rw [o5]; rfl),
      fld_int n6 (k := .u64) (by rw [t6]; exact Tryz.underlying35) (by rw [o6]; rfl) (by rw [o6]; rfl), fld_int n7 (k := .u64) (by rw [t7]; exact Tryz.underlying35) (by rw [o7]; rfl) (by rw [o7]; rfl),
      fld_bool n8 (by rw [t8]; exact Tryz.underlying4) (by rw [o8]; rfl) (by rw [o8]; rfl), trivial⟩
    refine ⟨n2, _, _, by rw [t2, o2]; exact part_inst a w, by rw [t2, o2]; exact part_inst b w, by rw [t2]; exact run_equal_inst _ _ w⟩
theorem run_equal_dn (a b : Dn) (w : World) : (Op.equalIn 10000 44 (.agg (dnCells a)) (.agg (dnCells b))).run Tryz.prog w = .ok (dnEq a b) w := by
  rw [run_equalIn_struct w 9999 44 _ _ (by kernel_rfl) (by kernel_rfl), run_fields _ _ (flds_dn a b w _ dn_fields.1 dn_fields.2)]
  rfl
theorem run_neq_dn (a b : Dn) (w : World) : (binOp .neq 44 (.agg (dnCells a)) (.agg (dnCells b))).run Tryz.prog w = .ok (.bool (!dnEq a b)) w := by
  rw [run_neq_struct, run_equal_dn]; rfl
theorem dnEq_iff (a b : Dn) : dnEq a b = true ↔ a = b := by
  obtain ⟨p1, i1, c1, v1, a1, r1, w1, f1⟩ := a
  obtain ⟨p2, i2, c2, v2, a2, r2, w2, f2⟩ := b
  unfold dnEq
  simp [eqB_iff]
theorem dnEq_self (a : Dn) : dnEq a a = true := (dnEq_iff a a).2 rfl
end Go.Proofs.YtolmecnjolfjgaaGreatDoor
namespace Go.Proofs.YtolmecnjolfjgaaGreatDoor
open Go.RowKit

section
variable {P : Program} {ops : Array Oper} {Q : Exit → Act → World → Prop} {rest : List Oper} {o : Oper} {a : Act} {w : World}
/-- An operation that is carried out and gives a value. -/
theorem val_arm {v : Value} (hw : Region.wanted o (yielded ops a.tmps) = true) (hx : (execOp a.eval o).run P w = .ok (.value v) w) (h : wpList P ops Q rest (a.put o.dst v) w) : wpList P ops Q (o :: rest) a w :=
  BigFrame.wpList_want hw fun K hK => by
    unfold Oper.wp
    rw [hx]
    exact hK _ _ h
theorem exec_load_all {cs : Array Value} {t : TypeId} {g : Nat} (ty : TypeId) (x : Operand) (ho : o.op = .load ty x) (hx : a.eval x = .pointer (some ⟨g, 0, none⟩)) (hb : Blk cs t g w) {d : TypeDesc} (hu : P.underlying ty = some d) (hd : (match d with | .struct _ | .array _ _ => true | _ => false) = true)
    (hz : (P.info? ty).map (·.size) = some cs.size) : (execOp a.eval o).run P w = .ok (.value (.agg cs)) w := by
  unfold execOp
  simp only [ho, hx, Instr.loadAt, Instr.sureAddr, Sem.run_bind, Sem.run_pure, Result.andThen_ok, hb.var hu hd hz]
theorem exec_cmp {op : BinOp} {t u : TypeId} {x y : Operand} {xs ys : Array Value} {v : Value} (ho : o.op = .binOp op t x y u) (hm : P.eqGuardType P.depth t = false) (hx : a.eval x = .agg xs) (hy : a.eval y = .agg ys) (h : (binOp op t (.agg xs) (.agg ys)).run P w = .ok v w) :
    (execOp a.eval o).run P w = .ok (.value v) w := by
  have hg := run_eqGuard_agg (P := P) (w := w) op t x y xs ys hm
  unfold execOp
  simp only [ho, hx, hy, Sem.run_bind, Sem.run_pure, Result.andThen_ok, hg, h]
end
theorem guard_hrt : Tryz.prog.eqGuardType Tryz.prog.depth 38 = false := by kernel_rfl
theorem guard_dn : Tryz.prog.eqGuardType Tryz.prog.depth 44 = false := by kernel_rfl
theorem tgt_nn (i : Ins) : 0 ≤ tgt i ∧ tgt i ≤ 31 := by
  unfold tgt regV
  repeat' split
  all_goals omega
theorem zer_x0 {h : Hrt} (hl : h.x.length = 32) : (zerX h).x.getD 0 0 = 0 := by
  unfold zerX
  simp [List.getD_eq_getElem?_getD, hl]
theorem zer_id {h : Hrt} (hl : h.x.length = 32) (h0 : h.x.getD 0 0 = 0) : zerX h = h := by
  obtain ⟨p, x, c⟩ := h
  unfold zerX
  simp only at *
  congr 1
  match x, hl, h0 with
  | y :: l, _, h0 =>
    have : y = 0 := by simpa using h0
    subst this
    rfl
theorem do_x0 {h : Hrt} {d : Dn} {read : Int} {failed : Bool} (h0 : h.x.getD 0 0 = 0) : (doH h d read failed).x.getD 0 0 = 0 := by
  have ht := tgt_nn d.inst
  unfold doH
  split
  · simp only
    split
    · exact h0
    · rw [List.getD_eq_getElem?_getD, List.getElem?_set_ne (by omega), ← List.getD_eq_getElem?_getD]
      exact h0
  · exact h0
end Go.Proofs.YtolmecnjolfjgaaGreatDoor
namespace Go.Proofs.YtolmecnjolfjgaaGreatDoor
open Go.RowKit

theorem sx_zx {x : Int} (hx : 0 ≤ x) (k : Nat) : sx (zx x k) k = sx x k := by
  have h1 : zx (zx x k) k = zx x k := zx_zx x (Nat.le_refl k)
  unfold sx
  by_cases hk : k = 0
  · rw [if_pos hk, if_pos hk]
  · rw [if_neg hk, if_neg hk, zx_bit (zx x k) x (zx_nonneg x k) hx k (by omega) h1, h1]
theorem red_red (d : Dn) (read : Int) : redV d (redV d read) = redV d read := by
  unfold redV
  split
  · exact zx_zx _ (Nat.le_refl _)
  · rfl
theorem fai_fai (d : Dn) (failed : Bool) : faiB d (faiB d failed) = faiB d failed := by
  unfold faiB
  cases failed <;> simp
theorem sto_red {d : Dn} {read : Int} (hr : 0 ≤ read) (b : Int) : stoV d.inst.op (redV d read) b = stoV d.inst.op read b := by
  unfold redV
  split
  · by_cases h1 : srt d.inst.op = 5 ∨ srt d.inst.op = 11
    · rw [sto_some h1, sto_some h1]
    · by_cases h2 : srt d.inst.op = 12
      · rw [sto_amo h2, sto_amo h2, sx_zx hr, zx_zx _ (Nat.le_refl _)]
      · rw [sto_none (by omega), sto_none (by omega)]
  · rename_i hl
    have h2 : srt d.inst.op ≠ 12 := fun g => hl (by unfold ldsB; simp [g])
    by_cases h1 : srt d.inst.op = 5 ∨ srt d.inst.op = 11
    · rw [sto_some h1, sto_some h1]
    · rw [sto_none (by omega), sto_none (by omega)]
theorem val_red {h : Hrt} {d : Dn} (read : Int) (failed : Bool) : valW h d (redV d read) (faiB d failed) = valW h d read failed := by
  unfold valW
  rw [red_red, fai_fai]
theorem wro_red {h : Hrt} {d : Dn} {read : Int} (hr : 0 ≤ read) (failed : Bool) : wroV h d (redV d read) (faiB d failed) = wroV h d read failed := by
  unfold wroV
  rw [sto_red hr, fai_fai]
/-- What was read and whether it failed is all that a step asks. -/
theorem do_again (h : Hrt) (d : Dn) {read : Int} (hr : 0 ≤ read) (failed : Bool) :
    doD h d (doD h d read failed).read (doD h d read failed).failed = doD h d read failed ∧ doH h d (doD h d read failed).read (doD h d read failed).failed = doH h d read failed := by
  by_cases hc : d.cause = 0
  · have e : doD h d read failed = ⟨d.pc, d.inst, d.cause, if tgt d.inst = 0 then d.val else valW h d read failed, d.addr, redV d read, wroV h d read failed, faiB d failed⟩ := by unfold doD; rw [if_pos hc]
    rw [e]
    simp only
    constructor
    · unfold doD
      rw [if_pos hc, val_red, red_red, wro_red hr, fai_fai]
    · unfold doH
      rw [if_pos hc, if_pos hc, val_red]
  · have e : ∀ r f, doD h d r f = d := fun r f => by unfold doD; rw [if_neg hc]
    have e2 : ∀ r f, doH h d r f = ⟨h.pc, h.x, d.cause⟩ := fun r f => by unfold doH; rw [if_neg hc]
    simp only [e, e2, and_self]
theorem alo_seq (B : List Int) (h : Hrt) : ∀ n, (aloK B h n).done.length ≤ n ∧ ((aloK B h n).h.cause = 0 → (aloK B h n).done.length = n) ∧ aloK B h (aloK B h n).done.length = aloK B h n ∧
    ∀ i, i < (aloK B h n).done.length → (aloK B h i).h.cause = 0 ∧ (aloK B h n).done[i]? = some (nowD B (aloK B h i))
  | 0 => ⟨Nat.le_refl _, fun _ => rfl, rfl, fun i hi => absurd hi (Nat.not_lt_zero _)⟩
  | n + 1 => by
    obtain ⟨h1, h2, h3, h4⟩ := alo_seq B h n
    by_cases hc : (aloK B h n).h.cause = 0
    · have e := alo_next hc
      have hl := h2 hc
      have hd : (aloS B (aloK B h n)).done = (aloK B h n).done ++ [nowD B (aloK B h n)] := rfl
      have hln : (aloS B (aloK B h n)).done.length = n + 1 := by rw [alo_len, hl]
      rw [e, hln]
      refine ⟨Nat.le_refl _, fun _ => rfl, e, fun i hi => ?_⟩
      rw [hd]
      by_cases hin : i < n
      · have := h4 i (by omega)
        exact ⟨this.1, by rw [List.getElem?_append_left (by omega)]; exact this.2⟩
      · obtain rfl : i = n := by omega
        exact ⟨hc, by rw [List.getElem?_append_right (by omega)]; simp [hl]⟩
    · have e : aloK B h (n + 1) = aloK B h n := alo_stay hc 1
      rw [e]
      exact ⟨by omega, fun g => absurd g hc, h3, h4⟩
theorem alo_oks {h : Hrt} {B : List Int} (hw : Wh h) (hb : ∀ b ∈ B, 0 ≤ b ∧ b < 256) : ∀ n, AloOk (aloK B h n) B.length ∧ (aloK B h n).h.x.getD 0 0 = 0
  | 0 => ⟨⟨zer_wh hw, rfl, hb⟩, zer_x0 hw.len⟩
  | n + 1 => by
    obtain ⟨h1, h2⟩ := alo_oks hw hb n
    by_cases hc : (aloK B h n).h.cause = 0
    · rw [alo_next hc]
      exact ⟨alo_ok h1 rfl, do_x0 h2⟩
    · rw [show aloK B h (n + 1) = aloK B h n from alo_stay hc 1]
      exact ⟨h1, h2⟩
/-- A step with the numbers that were read does the same. -/
theorem step_again {h : Hrt} {B : List Int} (hw : Wh h) (hb : ∀ b ∈ B, 0 ≤ b ∧ b < 256) (i : Nat) (hc : (aloK B h i).h.cause = 0) :
    stpH (aloK B h i).h B (nowD B (aloK B h i)).read (nowD B (aloK B h i)).failed = (aloK B h (i + 1)).h ∧ stpD (aloK B h i).h B (nowD B (aloK B h i)).read (nowD B (aloK B h i)).failed = nowD B (aloK B h i) := by
  obtain ⟨h1, h2⟩ := alo_oks hw hb i
  have hz := zer_id h1.h.len h2
  have e : (aloK B h (i + 1)).h = nowH B (aloK B h i) := by rw [alo_next hc]; rfl
  have ha := do_again (aloK B h i).h (begD (aloK B h i).h B) (num_U h1.byts (reaA (begD (aloK B h i).h B)) (reaS (begD (aloK B h i).h B))).1 (!(decide (reaA (begD (aloK B h i).h B) = (aloK B h i).ra) && decide (reaS (begD (aloK B h i).h B) = (aloK B h i).rs)))
  rw [e]
  unfold stpH stpD
  rw [if_pos hc, if_pos hc, hz]
  exact ⟨ha.2, ha.1⟩
end Go.Proofs.YtolmecnjolfjgaaGreatDoor
namespace Go.Proofs.YtolmecnjolfjgaaGreatDoor
open Go.RowKit

section
variable {P : Program} {ops : Array Oper} {Q : Exit → Act → World → Prop} {md : Region.Mode} {S : World → Prop} {fuel : Nat} {listed : Array Bool} {a : Act} {w : World}
theorem exec_index {o : Oper} {t e : TypeId} {x y : Operand} {g n c sz i : Nat} (ho : o.op = .indexAddr t x y) (hx : a.eval x = .slice (some ⟨g, 0, none⟩) n c) (hy : a.eval y = .int .i64 (i : Int)) (hi : i < n) (he : P.underlying t = some (.slice e)) (hs : (sizeOf e).run P w = .ok sz w) :
    (execOp a.eval o).run P w = .ok (.value (.pointer (some ⟨g, i * sz, none⟩))) w := by
  have hu : P.underlying t = some (.slice (P.elem t)) := by rw [he]; simp [Program.elem, he]
  have hz : P.elem t = e := by simp [Program.elem, he]
  unfold execOp
  simp only [ho, hx, hy, Sem.run_bind, run_indexAt_slice _ _ _ _ _ _ _ hu, hz]
  rw [if_pos ⟨by omega, by omega⟩]
  simp [hs, Addr.add]
  intro e
  omega
theorem exec_load_part {o : Oper} {ty : TypeId} {x : Operand} {b q : Nat} {cs : List Value} {d : TypeDesc} (ho : o.op = .load ty x) (hx : a.eval x = .pointer (some ⟨b, q, none⟩)) (hc : w.rangeAt b q cs) (hu : P.underlying ty = some d) (hd : d.isRow = true) (hi : (P.info? ty).map (·.size) = some cs.length) :
    (execOp a.eval o).run P w = .ok (.value (.agg cs.toArray)) w := by
  unfold execOp
  simp only [ho, hx, Sem.run_bind, Sem.run_pure, Result.andThen_ok, run_loadAt_mid w b q ty cs d hc hu hd hi]
/-- A new block comes up. -/
theorem alloc_op {i : Nat} {oi : Oper} {K : Act → World → Prop} {t : TypeId} {cs : Array Value} (hi : ops[i]? = some oi) (gi : oi.guard = none) (ho : oi.op = .alloc t) (hz : (P.info? t).map (·.zero) = some (some (.agg cs))) (h : K (a.put oi.dst (.pointer (some ⟨w.heap.size, 0, none⟩))) (w.alloc (.cells cs t))) : wpOp P ops Q i K a w := by
  have hx : (execOp a.eval oi).run P w = .ok (.value (.pointer (some ⟨w.heap.size, 0, none⟩))) (w.alloc (.cells cs t)) := by
    cases hq : P.info? t with
    | none => simp [hq] at hz
    | some z =>
      have hz' : z.zero = some (.agg cs) := by simpa [hq] using hz
      unfold execOp
      simp [ho, Instr.alloc, zeroValue, typeInfo, hq, hz', newVar, newRow, Value.cells]
  unfold wpOp
  simp only [hi, wanted_none gi, if_true]
  refine .inl ?_
  unfold Oper.wp
  rw [hx]
  exact h
theorem call_op {i : Nat} {oi : Oper} {K : Act → World → Prop} {f : FuncId} {vals : Array Value} {R : Ending → World → Prop} (hi : ops[i]? = some oi) (hg : oi.guard = none)
    (hx : (execOp a.eval oi).run P w = .ok (.enter f vals) w) (hc : Calls P f vals w R) (hk : ∀ e w', R e w' → ∃ v, e = .returned v ∧ K (a.put oi.dst v) w') : wpOp P ops Q i K a w := by
  unfold wpOp
  simp only [hi, wanted_none hg, if_true]
  refine .inl ?_
  unfold Oper.wp
  rw [hx, Oper.upon_enter]
  refine hc.mono fun e w' he => ?_
  obtain ⟨v, rfl, h1⟩ := hk e w' he
  exact h1
theorem any_three {i j k : Nat} (hr : Region.ready md ops listed = [i, j, k]) (hi : wpOp P ops Q i (fun a' w' => S w' ∧ wpAnyH P md ops Q S fuel (listed.setIfInBounds i true) a' w') a w) (hj : wpOp P ops Q j (fun a' w' => S w' ∧ wpAnyH P md ops Q S fuel (listed.setIfInBounds j true) a' w') a w)
    (hk : wpOp P ops Q k (fun a' w' => S w' ∧ wpAnyH P md ops Q S fuel (listed.setIfInBounds k true) a' w') a w) : wpAnyH P md ops Q S (fuel + 1) listed a w :=
  wpAnyH_all hr (by simp) fun m hm => by
    simp only [List.mem_cons, List.not_mem_nil, or_false] at hm
    rcases hm with rfl | rfl | rfl <;> assumption
theorem any_two {i j : Nat} (hr : Region.ready md ops listed = [i, j]) (hi : wpOp P ops Q i (fun a' w' => S w' ∧ wpAnyH P md ops Q S fuel (listed.setIfInBounds i true) a' w') a w) (hj : wpOp P ops Q j (fun a' w' => S w' ∧ wpAnyH P md ops Q S fuel (listed.setIfInBounds j true) a' w') a w) : wpAnyH P md ops Q S (fuel + 1) listed a w :=
  wpAnyH_all hr (by simp) fun m hm => by
    simp only [List.mem_cons, List.not_mem_nil, or_false] at hm
    rcases hm with rfl | rfl <;> assumption
theorem any_one {i : Nat} (hr : Region.ready md ops listed = [i]) (hi : wpOp P ops Q i (fun a' w' => S w' ∧ wpAnyH P md ops Q S fuel (listed.setIfInBounds i true) a' w') a w) : wpAnyH P md ops Q S (fuel + 1) listed a w :=
  wpAnyH_all hr (by simp) fun m hm => by
    obtain rfl : m = i := by simpa using hm
    exact hi
theorem store_op {i : Nat} {oi : Oper} {K : Act → World → Prop} {g n : Nat} {t : TypeId} {ys : Array Value} (hi : ops[i]? = some oi) (gi : oi.guard = none) (di : oi.dst = none) (ty : TypeId) (x y : Operand) (ho : oi.op = .store ty x y) (hx : a.eval x = .pointer (some ⟨g, 0, none⟩)) (hy : a.eval y = .agg ys)
    (hz : (P.info? ty).map (·.size) = some ys.size) (hn : ys.size = n) (o1 : ∀ v ∈ ys.toList, v.oneCell' = true) (hh : Has n t g w) (h : ∀ w', Blk ys t g w' → w.grownBy w' (some g) → K a w') : wpOp P ops Q i K a w := by
  have put : ∀ (b : Act) (v : Value), b.put none v = b := fun _ _ => rfl
  unfold wpOp
  simp only [hi, wanted_none gi, if_true]
  refine .inl ?_
  obtain ⟨w1, e1, b1, k1⟩ := hh.put (P := P) ys hn o1 hz
  refine exec_store ho hx hy e1 ?_
  rw [di, put]
  exact h _ b1 k1
/-- The same, of six slots. -/
theorem end_onceP (t x y : Value) (s1 s2 s3 s4 s5 s6 : Nat) (C : Nat → Nat → World → Prop)
    (hend : ∀ b1 b2 w, C b1 b2 w → Q .normal ((((((a.put (some s1) t).put (some s2) t).put (some s3) x).put (some s4) y).put (some s5) (.pointer (some ⟨b1, 0, none⟩))).put (some s6) (.pointer (some ⟨b2, 0, none⟩))) w)
    (h : (∀ b1 b2 w, C b1 b2 w → Q .normal ((((((a.put (some s1) t).put (some s2) t).put (some s3) x).put (some s4) y).put (some s5) (.pointer (some ⟨b1, 0, none⟩))).put (some s6) (.pointer (some ⟨b2, 0, none⟩))) w) → wpAnyH P md ops Q S fuel listed a w) : wpAnyH P md ops Q S fuel listed a w := h hend
end
theorem grown_setC (w : World) (a : Addr) (u : Value) : w.grownBy (w.setCell a u) (some a.block) :=
  ⟨rfl, rfl, rfl, by simp [World.setCell], fun k _ hk => heap_setCell_other w a k u (fun e => hk (by rw [e]))⟩
theorem now_read {B : List Int} {s : Alo} {n : Nat} (hs : AloOk s n) (hb : ∀ b ∈ B, 0 ≤ b ∧ b < 256) : U64 (nowD B s).read := by
  have h0 := (beg_ok (B := B) hs.h hb).2.2.2.2
  have hz : U64 (0 : Int) := ⟨by decide, by decide⟩
  unfold nowD doD
  split
  · simp only
    unfold redV
    split
    · exact zx_UO _ _
    · rw [h0]; exact hz
  · rw [h0]; exact hz
theorem cellsD_at {l : List Dn} {d : Dn} : ∀ {i : Nat}, l[i]? = some d → ∀ j, j < 16 → (cellsD l)[i * 16 + j]? = (dnCells d)[j]? := by
  induction l with
  | nil => intro i h; cases h
  | cons x l ih =>
    intro i h j hj
    have e : cellsD (x :: l) = (dnCells x).toList ++ cellsD l := rfl
    have hx : (dnCells x).toList.length = 16 := rfl
    rw [e]
    cases i with
    | zero =>
      obtain rfl : x = d := by simpa using h
      rw [List.getElem?_append_left (by omega), Nat.zero_mul, Nat.zero_add]
      simp
    | succ i =>
      rw [List.getElem?_append_right (by omega), hx, show (i + 1) * 16 + j - 16 = i * 16 + j by omega]
      exact ih (by simpa using h) j hj
/-- One of a list of those that were done. -/
theorem list_part {w : World} {base q n c : Nat} {l : List Dn} {d : Dn} {i : Nat} (h : w.ownsRow base 44 16 (.slice (some ⟨q, 0, none⟩) n c) n (cellsD l)) (hd : l[i]? = some d) (hi : i < n) : ∀ j, j < 16 → w.cell? ⟨q, i * 16 + j, none⟩ = (dnCells d)[j]? := fun j hj => by
  rw [h.cellAt (i * 16 + j) (by omega)]
  exact cellsD_at hd j hj
theorem list_range {w : World} {base q n c : Nat} {l : List Dn} {d : Dn} {i : Nat} (h : w.ownsRow base 44 16 (.slice (some ⟨q, 0, none⟩) n c) n (cellsD l)) (hd : l[i]? = some d) (hi : i < n) : w.rangeAt q (i * 16) (dnCells d).toList := fun j v hv => by
  have hj : j < 16 := (List.getElem?_eq_some_iff.1 hv).1
  rw [list_part h hd hi j hj]
  simpa using hv
/-- In a world behind W: the hart in block g, the one alone in block k, the list. -/
structure Tog (W : World) (h f : Hrt) (g k : Nat) (v : Value) (l : List Dn) (w : World) : Prop where
  at0 : W.heap.size ≤ g
  gk : g < k
  bw : BW W w
  hart : Blk (hrtCells h) 38 g w
  fin : Blk (hrtCells f) 38 k w
  list : w.ownsRow (g + 1) 44 16 v l.length (cellsD l)
section
variable {W w w' : World} {h h' f : Hrt} {g k : Nat} {v : Value} {l : List Dn}
theorem Tog.on (a : Tog W h f g k v l w) (hb : Below w.heap.size w w') : Tog W h f g k v l w' := ⟨a.at0, a.gk, a.bw.on hb, a.hart.on hb, a.fin.on hb, row_on a.list hb⟩
theorem Tog.drew (a : Tog W h f g k v l w) : Tog W h f g k v l w.drew := ⟨a.at0, a.gk, Below.drew a.bw, a.hart.drew, a.fin.drew, a.list⟩
/-- The hart is written over. -/
theorem Tog.put (a : Tog W h f g k v l w) (b : Blk (hrtCells h') 38 g w') (hk : w.grownBy w' (some g)) : Tog W h' f g k v l w' := by
  have h0 := a.at0
  have h1 := a.gk
  refine ⟨h0, h1, Below.stored a.bw hk h0 (Below.size a.bw), b, a.fin.far hk (by omega), a.list.kept hk (.inr fun e => ?_)⟩
  have := (a.list.lt _ e).1
  omega
/-- Another block is written, a new one. -/
theorem Tog.far (a : Tog W h f g k v l w) {b : Nat} (hk : w.grownBy w' (some b)) (hb : k < b) (hl : v.ownBlock ≠ some b) : Tog W h f g k v l w' := by
  have h0 := a.at0
  have h1 := a.gk
  exact ⟨h0, h1, Below.stored a.bw hk (by omega) (Below.size a.bw), a.hart.far hk (by omega), a.fin.far hk (by omega), a.list.kept hk (.inr hl)⟩
theorem Tog.set (a : Tog W h f g k v l w) (i : Nat) (u : Value) (e : (hrtCells h).setIfInBounds i u = hrtCells h') : Tog W h' f g k v l (w.setCell ⟨g, i, none⟩ u) :=
  a.put (by have := a.hart.set i u; rw [e] at this; exact this) (grown_setC w ⟨g, i, none⟩ u)
theorem Tog.new (a : Tog W h f g k v l w) (o : Obj) : Tog W h f g k v l (w.alloc o) := a.on (BW.new (Below.refl w.heap.size w) o)
end
end Go.Proofs.YtolmecnjolfjgaaGreatDoor
