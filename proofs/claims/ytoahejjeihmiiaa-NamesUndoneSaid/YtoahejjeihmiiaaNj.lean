/- Stage 15: the contracts at a file that lies behind W, alone and beside the document's; arrays compared; alive. -/
import Derived.Test.YtoahejjeihmiiaaNi
import Derived.ChangeKeysEq
set_option maxRecDepth 100000
set_option linter.unusedVariables false
namespace Go.Proofs.Ytoahejjeihmiiaa
open Go.RowKit

/-! ### Arrays of numbers, compared -/
section
variable {P : Program} (w : World)
theorem items_same (d : Nat) {e : TypeId} (he : P.underlying e = some (.int .u64)) (x : Nat → Int) : ∀ is : List Nat, (∀ i ∈ is, i < 32) → (Op.eqItems (d + 1) e 1 (xCells x) (xCells x) is).run P w = .ok true w
  | [], _ => by simp [Op.eqItems]
  | i :: is, h => by
    have hi := h i (by simp)
    have p1 := run_part_flat (P := P) w (cs := xCells x) (o := i * 1) (v := .int .u64 (x i)) he rfl (by rw [Nat.mul_one]; exact xCells_at x hi)
    have ih := items_same d he x is (fun j hj => h j (by simp [hj]))
    have p3 := run_equalIn_int (P := P) w d e .u64 .u64 (x i) (x i) he
    unfold Op.eqItems
    simp only [Sem.run_bind, p1, p3, Result.andThen_ok, beq_self_eq_true, Bool.not_true, Bool.false_eq_true, if_false]
    exact ih
end
theorem infoN_u64 : (Try.prog.info? 22).isSome = true := by kernel_rfl
theorem equalIn_xc (d : Nat) (w : World) (x : Nat → Int) : (Op.equalIn (d + 2) 23 (.agg (xCells x)) (.agg (xCells x))).run Try.prog w = .ok true w := by
  obtain ⟨i, hi⟩ := Option.isSome_iff_exists.1 infoN_u64
  rw [run_equalIn_array w (d + 1) _ _ Try.underlying23 hi, show Try.prog.cellsOf 22 = 1 by kernel_rfl, items_same w d Try.underlying22 x _ (fun i hi => List.mem_range.1 hi)]
theorem eql_xc (w : World) (x : Nat → Int) : (binOp .eql 23 (.agg (xCells x)) (.agg (xCells x))).run Try.prog w = .ok (.bool true) w := by
  rw [run_eql_struct, equalIn_xc 9998 w x]
  rfl
theorem neq_xc (w : World) (x : Nat → Int) : (binOp .neq 23 (.agg (xCells x)) (.agg (xCells x))).run Try.prog w = .ok (.bool false) w := by
  rw [run_neq_struct, equalIn_xc 9998 w x]
  rfl
theorem guard_xc : Try.prog.eqGuardType Try.prog.depth 23 = false := by kernel_rfl
theorem exec_cmpN {P : Program} {o : Oper} {a : Act} {w : World} {op : BinOp} {t u : TypeId} {x y : Operand} {xs ys : Array Value} {v : Value} (ho : o.op = .binOp op t x y u) (hm : P.eqGuardType P.depth t = false) (hx : a.eval x = .agg xs) (hy : a.eval y = .agg ys) (h : (binOp op t (.agg xs) (.agg ys)).run P w = .ok v w) :
    (execOp a.eval o).run P w = .ok (.value v) w := by
  have hg := run_eqGuard_agg (P := P) (w := w) op t x y xs ys hm
  unfold execOp
  simp only [ho, hx, hy, Sem.run_bind, Sem.run_pure, Result.andThen_ok, hg, h]

/-! ### A file behind W, and other blocks that are known whole -/
abbrev Kb := Array Value × TypeId × Nat
def KAll (K : List Kb) (F : List Nat) (w : World) : Prop := ∀ b ∈ K, Blk b.1 b.2.1 b.2.2 w ∧ b.2.2 ∉ F
theorem KAll.on {K : List Kb} {F : List Nat} {w w' : World} (h : KAll K F w) (k : Below w.heap.size w w') : KAll K F w' := fun b hb => ⟨(h b hb).1.on k, (h b hb).2⟩
theorem KAll.up {K : List Kb} {p p' : Npl} {w w' : World} (h : KAll K p.foot w) (k : Fr p.foot w w') (hf : ∀ i ∈ p'.foot, i ∈ p.foot ∨ w.heap.size ≤ i) : KAll K p'.foot w' := fun b hb => by
  obtain ⟨h1, h2⟩ := h b hb
  refine ⟨k.blk h1 h2, fun hm => ?_⟩
  rcases hf _ hm with h3 | h3
  · exact h2 h3
  · have := h1.lt; omega
theorem KAll.fr {K : List Kb} {F G : List Nat} {w w' : World} (h : KAll K F w) (hG : KAll K G w) (k : Fr G w w') : KAll K F w' := fun b hb => ⟨k.blk (h b hb).1 (hG b hb).2, (h b hb).2⟩
def NG (W : World) (s : Nst) (g : Nat) (K : List Kb) (w : World) : Prop := NOk s ∧ ∃ p, p.g = g ∧ NAt s p w ∧ (∀ k ∈ p.foot, W.heap.size ≤ k) ∧ BW W w ∧ KAll K p.foot w
theorem NG.ok {W w : World} {s : Nst} {g : Nat} {K : List Kb} (h : NG W s g K w) : NOk s := h.1
theorem NG.low {W w : World} {s : Nst} {g : Nat} {K : List Kb} (h : NG W s g K w) : BW W w := by obtain ⟨_, p, _, _, _, hb, _⟩ := h; exact hb
theorem NG.on {W w w' : World} {s : Nst} {g : Nat} {K : List Kb} (h : NG W s g K w) (k : Below w.heap.size w w') : NG W s g K w' := by
  obtain ⟨ok, p, hg, ha, hf, hb, hk⟩ := h
  exact ⟨ok, p, hg, Two.on ha k, hf, BW.on hb k, hk.on k⟩
theorem NG.blk {W w : World} {s : Nst} {g : Nat} {K : List Kb} (h : NG W s g K w) {b : Kb} (hb : b ∈ K) : Blk b.1 b.2.1 b.2.2 w := by obtain ⟨_, p, _, _, _, _, hk⟩ := h; exact (hk b hb).1
theorem NG.sub {W w : World} {s : Nst} {g : Nat} {K L : List Kb} (h : NG W s g K w) (hs : ∀ b ∈ L, b ∈ K) : NG W s g L w := by
  obtain ⟨ok, p, hg, ha, hf, hb, hk⟩ := h
  exact ⟨ok, p, hg, ha, hf, hb, fun b hb => hk b (hs b hb)⟩
/-- A new block beside it. -/
theorem NG.new {W w : World} {s : Nst} {g : Nat} {K : List Kb} (h : NG W s g K w) (cs : Array Value) (t : TypeId) : NG W s g ((cs, t, w.heap.size) :: K) (w.alloc (.cells cs t)) := by
  have hb1 := BW.new (Below.refl _ w) (.cells cs t)
  obtain ⟨ok, p, hg, ha, hf, hb, hk⟩ := h
  refine ⟨ok, p, hg, Two.on ha hb1, hf, BW.on hb hb1, fun b hbm => ?_⟩
  rcases List.mem_cons.1 hbm with rfl | hbm
  · exact ⟨Blk.new _ _ _, fun hm => by have := Two.lt ha _ hm; dsimp only at this; omega⟩
  · exact hk.on hb1 b hbm
/-- One of its other blocks is written. -/
theorem NG.put {W w w' : World} {s : Nst} {g : Nat} {K : List Kb} {cs ds : Array Value} {t : TypeId} {b : Nat} (h : NG W s g ((cs, t, b) :: K) w) (hW : W.heap.size ≤ b) (hK : ∀ x ∈ K, x.2.2 ≠ b) (hb : Blk ds t b w') (k : Fr [b] w w') : NG W s g ((ds, t, b) :: K) w' := by
  obtain ⟨ok, p, hg, ha, hf, hbw, hk⟩ := h
  have hbf := (hk _ (List.mem_cons_self)).2
  refine ⟨ok, p, hg, Two.fr ha k (fun i hi hm => hbf (by rw [List.mem_singleton.1 hm] at hi; exact hi)), hf, Below.trans hbw (k.below (by intro i hi; rw [List.mem_singleton.1 hi]; exact hW) (Below.size hbw)), fun x hx => ?_⟩
  rcases List.mem_cons.1 hx with rfl | hx
  · exact ⟨hb, hbf⟩
  · obtain ⟨y1, y2⟩ := hk x (List.mem_cons_of_mem _ hx)
    exact ⟨k.blk y1 (fun hm => hK x hx (List.mem_singleton.1 hm)), y2⟩
section
variable {W w : World} {s : Nst} {g : Nat} {K : List Kb}
theorem ng_new (x : Nat → Int) (W w : World) (hw : BW W w) (K : List Kb) (hK : ∀ b ∈ K, Blk b.1 b.2.1 b.2.2 w) : Calls Try.prog 8 #[.agg (xCells x)] w fun e w' => ∃ g, e = .returned (.pointer (some ⟨g, 0, none⟩)) ∧ NG W (newN (updN x 0 0)) g K w' ∧ w.heap.size ≤ g ∧ BW w w' := by
  refine (new15_c x w).mono ?_
  rintro e w' ⟨p, rfl, ha, hf, hb⟩
  exact ⟨p.g, rfl, ⟨newN_ok _, p, rfl, ha, fun k hk => Nat.le_trans (Below.size hw) (hf k hk), BW.on hw hb, fun b hbm => ⟨(hK b hbm).on hb, fun hm => by have h1 := (hK b hbm).lt; have h2 := hf _ hm; omega⟩⟩, hf p.g (foot_head p), hb⟩
theorem ng_claim (h : NG W s g K w) (r : Int) : Calls Try.prog 10 #[.pointer (some ⟨g, 0, none⟩), .int .i64 r] w fun e w' => e = .returned (.tuple #[.int .i64 (claN s r).2.1, .bool (claN s r).2.2]) ∧ NG W ((claN s r).1) g K w' := by
  obtain ⟨ok, p, rfl, ha, hf, hb, hk⟩ := h
  refine (claim15_c ha ok r).mono ?_
  rintro e w' ⟨rfl, p', a, b, cc, d⟩
  exact ⟨rfl, ok.cla r, p', b, a, fun i hi => (cc i hi).elim (hf i) (fun h1 => Nat.le_trans (Below.size hb) h1), Below.trans hb (d.below hf (Below.size hb)), hk.up d cc⟩
theorem ng_set (h : NG W s g K w) (c v : Int) : Calls Try.prog 12 #[.pointer (some ⟨g, 0, none⟩), .int .i64 c, .int .u64 v] w fun e w' => e = .returned (.bool (hasN s c)) ∧ NG W (setN s c v) g K w' := by
  obtain ⟨ok, p, rfl, ha, hf, hb, hk⟩ := h
  refine (set15_c ha ok c v).mono ?_
  rintro e w' ⟨rfl, p', a, b, cc, d⟩
  exact ⟨rfl, ok.set c v, p', b, a, fun i hi => (cc i hi).elim (hf i) (fun h1 => Nat.le_trans (Below.size hb) h1), Below.trans hb (d.below hf (Below.size hb)), hk.up d cc⟩
theorem ng_retire (h : NG W s g K w) : Calls Try.prog 14 #[.pointer (some ⟨g, 0, none⟩)] w fun e w' => e = .returned (.bool (retOk s)) ∧ NG W (retN s) g K w' := by
  obtain ⟨ok, p, rfl, ha, hf, hb, hk⟩ := h
  refine (retire15_c ha ok).mono ?_
  rintro e w' ⟨rfl, p', a, b, cc, d⟩
  exact ⟨rfl, ok.ret, p', b, a, fun i hi => (cc i hi).elim (hf i) (fun h1 => Nat.le_trans (Below.size hb) h1), Below.trans hb (d.below hf (Below.size hb)), hk.up d cc⟩
theorem ng_undo (h : NG W s g K w) : Calls Try.prog 16 #[.pointer (some ⟨g, 0, none⟩)] w fun e w' => e = .returned (.bool (undOk s)) ∧ NG W (undN s) g K w' := by
  obtain ⟨ok, p, rfl, ha, hf, hb, hk⟩ := h
  refine (undo15_c ha ok).mono ?_
  rintro e w' ⟨rfl, p', a, b, cc, d⟩
  exact ⟨rfl, ok.und, p', b, a, fun i hi => (cc i hi).elim (hf i) (fun h1 => Nat.le_trans (Below.size hb) h1), Below.trans hb (d.below hf (Below.size hb)), hk.up d cc⟩
theorem ng_look (h : NG W s g K w) (r : Int) : Calls Try.prog 19 #[.pointer (some ⟨g, 0, none⟩), .int .i64 r] w fun e w' => e = .returned (.int .i64 (lookN s r)) ∧ BW w w' := by
  obtain ⟨ok, p, rfl, ha, hf, hb, hk⟩ := h
  exact look15_c ha ok r
theorem ng_values (h : NG W s g K w) : Calls Try.prog 21 #[.pointer (some ⟨g, 0, none⟩)] w fun e w' => e = .returned (.agg (xCells (valsN s))) ∧ BW w w' := by
  obtain ⟨ok, p, rfl, ha, hf, hb, hk⟩ := h
  exact values_c ha ok
theorem ng_claims (h : NG W s g K w) : Calls Try.prog 18 #[.pointer (some ⟨g, 0, none⟩)] w fun e w' => e = .returned (.int .i64 (s.l.length : Int)) ∧ w = w' := by
  obtain ⟨ok, p, rfl, ha, hf, hb, hk⟩ := h
  exact claims_c ha
end

/-! ### A file, and the document's beside it -/
def NLQ (W : World) (s t : Nst) (g h : Nat) (K : List Kb) (w : World) : Prop := NOk s ∧ NOk t ∧ ∃ p q, p.g = g ∧ q.g = h ∧ NAt s p w ∧ RnAt t q w ∧ (∀ k ∈ p.foot, W.heap.size ≤ k) ∧ (∀ k ∈ q.foot, W.heap.size ≤ k) ∧ (∀ k ∈ p.foot, k ∉ q.foot) ∧ BW W w ∧ KAll K p.foot w ∧ KAll K q.foot w
section
variable {W w w' : World} {s t : Nst} {g h : Nat} {K : List Kb}
theorem NLQ.low (H : NLQ W s t g h K w) : BW W w := by obtain ⟨_, _, p, q, _, _, _, _, _, _, _, hb, _⟩ := H; exact hb
theorem NLQ.oks (H : NLQ W s t g h K w) : NOk s ∧ NOk t := ⟨H.1, H.2.1⟩
theorem NLQ.blk (H : NLQ W s t g h K w) {b : Kb} (hb : b ∈ K) : Blk b.1 b.2.1 b.2.2 w := by obtain ⟨_, _, p, q, _, _, _, _, _, _, _, _, hk, _⟩ := H; exact (hk b hb).1
theorem NLQ.on (H : NLQ W s t g h K w) (k : Below w.heap.size w w') : NLQ W s t g h K w' := by
  obtain ⟨o1, o2, p, q, e1, e2, a1, a2, f1, f2, d, hb, k1, k2⟩ := H
  exact ⟨o1, o2, p, q, e1, e2, Two.on a1 k, Two.on a2 k, f1, f2, d, BW.on hb k, k1.on k, k2.on k⟩
theorem NLQ.sub {L : List Kb} (H : NLQ W s t g h K w) (hs : ∀ b ∈ L, b ∈ K) : NLQ W s t g h L w := by
  obtain ⟨o1, o2, p, q, e1, e2, a1, a2, f1, f2, d, hb, k1, k2⟩ := H
  exact ⟨o1, o2, p, q, e1, e2, a1, a2, f1, f2, d, hb, fun b hb => k1 b (hs b hb), fun b hb => k2 b (hs b hb)⟩
theorem NLQ.new (H : NLQ W s t g h K w) (cs : Array Value) (ty : TypeId) : NLQ W s t g h ((cs, ty, w.heap.size) :: K) (w.alloc (.cells cs ty)) := by
  have hb1 := BW.new (Below.refl _ w) (.cells cs ty)
  obtain ⟨o1, o2, p, q, e1, e2, a1, a2, f1, f2, d, hb, k1, k2⟩ := H
  refine ⟨o1, o2, p, q, e1, e2, Two.on a1 hb1, Two.on a2 hb1, f1, f2, d, BW.on hb hb1, fun b hbm => ?_, fun b hbm => ?_⟩
  · rcases List.mem_cons.1 hbm with rfl | hbm
    · exact ⟨Blk.new _ _ _, fun hm => by have := Two.lt a1 _ hm; dsimp only at this; omega⟩
    · exact k1.on hb1 b hbm
  · rcases List.mem_cons.1 hbm with rfl | hbm
    · exact ⟨Blk.new _ _ _, fun hm => by have := Two.lt a2 _ hm; dsimp only at this; omega⟩
    · exact k2.on hb1 b hbm
/-- The program's file turns. -/
theorem NLQ.prog {u : Nst} (H : NLQ W s t g h K w) (hu : NOk u) {f : FuncId} {vs : Array Value} {v : Value} (hc : ∀ p, p.g = g → NAt s p w → NOk s → Calls Try.prog f vs w fun e w' => e = .returned v ∧ UpT (NAt u) p w w') : Calls Try.prog f vs w fun e w' => e = .returned v ∧ NLQ W u t g h K w' := by
  obtain ⟨o1, o2, p, q, e1, e2, a1, a2, f1, f2, d, hb, k1, k2⟩ := H
  refine (hc p e1 a1 o1).mono ?_
  rintro e w' ⟨rfl, p', x1, x2, x3, x4⟩
  have hd : ∀ k ∈ p'.foot, k ∉ q.foot := fun k hk hq => (x3 k hk).elim (fun h1 => d k h1 hq) (fun h1 => by have := Two.lt a2 k hq; omega)
  exact ⟨rfl, hu, o2, p', q, x2.trans e1, e2, x1, Two.fr a2 x4 (fun i hi hm => d i hm hi), fun i hi => (x3 i hi).elim (f1 i) (fun h1 => Nat.le_trans (Below.size hb) h1), f2, hd, Below.trans hb (x4.below f1 (Below.size hb)), k1.up x4 x3, k2.fr k1 x4⟩
/-- The document's turns. -/
theorem NLQ.docu {u : Nst} (H : NLQ W s t g h K w) (hu : NOk u) {f : FuncId} {vs : Array Value} {v : Value} (hc : ∀ q, q.g = h → RnAt t q w → NOk t → Calls Try.prog f vs w fun e w' => e = .returned v ∧ UpT (RnAt u) q w w') : Calls Try.prog f vs w fun e w' => e = .returned v ∧ NLQ W s u g h K w' := by
  obtain ⟨o1, o2, p, q, e1, e2, a1, a2, f1, f2, d, hb, k1, k2⟩ := H
  refine (hc q e2 a2 o2).mono ?_
  rintro e w' ⟨rfl, q', x1, x2, x3, x4⟩
  have hd : ∀ k ∈ p.foot, k ∉ q'.foot := fun k hk hq => (x3 k hq).elim (fun h1 => d k hk h1) (fun h1 => by have := Two.lt a1 k hk; omega)
  exact ⟨rfl, o1, hu, p, q', e1, x2.trans e2, Two.fr a1 x4 (fun i hi hm => d i hi hm), x1, f1, fun i hi => (x3 i hi).elim (f2 i) (fun h1 => Nat.le_trans (Below.size hb) h1), hd, Below.trans hb (x4.below f2 (Below.size hb)), k1.fr k2 x4, k2.up x4 x3⟩
theorem NLQ.pre {f : FuncId} {vs : Array Value} {R : Ending → World → Prop} (H : NLQ W s t g h K w) (hc : ∀ p, p.g = g → NAt s p w → NOk s → Calls Try.prog f vs w R) : Calls Try.prog f vs w R := by
  obtain ⟨o1, o2, p, q, e1, e2, a1, a2, _⟩ := H
  exact hc p e1 a1 o1
theorem NLQ.dre {f : FuncId} {vs : Array Value} {R : Ending → World → Prop} (H : NLQ W s t g h K w) (hc : ∀ q, q.g = h → RnAt t q w → NOk t → Calls Try.prog f vs w R) : Calls Try.prog f vs w R := by
  obtain ⟨o1, o2, p, q, e1, e2, a1, a2, _⟩ := H
  exact hc q e2 a2 o2
end

/-! ### alive -/
def x59 : Nat → Int := fun k => if k = 5 then 9 else 0
theorem x59_lit : xCells x59 = #[.int .u64 0, .int .u64 0, .int .u64 0, .int .u64 0, .int .u64 0, .int .u64 9, .int .u64 0, .int .u64 0, .int .u64 0, .int .u64 0, .int .u64 0, .int .u64 0, .int .u64 0, .int .u64 0, .int .u64 0, .int .u64 0, .int .u64 0, .int .u64 0, .int .u64 0, .int .u64 0, .int .u64 0, .int .u64 0, .int .u64 0, .int .u64 0, .int .u64 0, .int .u64 0, .int .u64 0, .int .u64 0, .int .u64 0, .int .u64 0, .int .u64 0, .int .u64 0] := rfl
def al0 : Nst := newN (updN x59 0 0)
def al1 : Nst := (claN al0 5).1
def al2 : Nst := (claN al1 5).1
def al3 : Nst := undN al2
def al4 : Nst := setN al3 32 7
def al5 : Nst := retN al4
def al6 : Nst := (claN al5 6).1
theorem al_facts : ((claN al0 5).2 = (32, true) ∧ (claN al1 5).2 = (33, true) ∧ undOk al2 = true) ∧ (hasN al3 32 = true ∧ retOk al4 = true ∧ (claN al5 6).2 = (5, true)) ∧ (valsN al6 5 = 7 ∧ lookN al6 5 = 32 ∧ al6.l.length = 1) := by
  refine ⟨⟨?_, ?_, ?_⟩, ⟨?_, ?_, ?_⟩, ?_, ?_, ?_⟩ <;> decide +kernel
set_option maxHeartbeats 4000000 in
theorem alive15_any (w : World) : Calls Try.prog 7 #[] w fun e w' => e = .returned (.bool true) ∧ BW w w' := by
  obtain ⟨⟨a1, a2, a3⟩, ⟨a4, a5, a6⟩, a7, a8, a9⟩ := al_facts
  have K0 := Lib.hid (ng_new x59 w w (Below.refl _ _) [] (fun b hb => by cases hb))
  have K1 := Lib.hid (fun g x (h : NG w al0 g [] x) => a1 ▸ ng_claim h 5)
  have K2 := Lib.hid (fun g x (h : NG w al1 g [] x) => a2 ▸ ng_claim h 5)
  have K3 := Lib.hid (fun g x (h : NG w al2 g [] x) => a3 ▸ ng_undo h)
  have K4 := Lib.hid (fun g x (h : NG w al3 g [] x) => a4 ▸ ng_set h 32 7)
  have K5 := Lib.hid (fun g x (h : NG w al4 g [] x) => a5 ▸ ng_retire h)
  have K6 := Lib.hid (fun g x (h : NG w al5 g [] x) => a6 ▸ ng_claim h 6)
  have K7 := Lib.hid (fun g x (h : NG w al6 g [] x) => ng_values h)
  have K8 := Lib.hid (fun g x (h : NG w al6 g [] x) => a8 ▸ ng_look h 5)
  have K9 := Lib.hid (fun g x (h : NG w al6 g [] x) => a9 ▸ ng_claims h)
  have ix : ∀ x, (Instr.index 23 (.agg (xCells (valsN al6))) (.int .i64 ((5 : Nat) : Int))).run Try.prog x = .ok (.int .u64 7) x := fun x => a7 ▸ index_row Try.underlying23 Try.underlying22 rfl (by kernel_rfl) (k := 5) (by omega) (xCells_at (valsN al6) (by omega)) x
  have e0 : newN (updN x59 0 0) = al0 := rfl
  have e1 : (claN al0 5).1 = al1 := rfl
  have e2 : (claN al1 5).1 = al2 := rfl
  have e3 : undN al2 = al3 := rfl
  have e4 : setN al3 32 7 = al4 := rfl
  have e5 : retN al4 = al5 := rfl
  have e6 : (claN al5 6).1 = al6 := rfl
  simp only [e0, e1, e2, e3, e4, e5, e6] at K0 K1 K2 K3 K4 K5 K6
  rw [x59_lit] at K0
  clear a1 a2 a3 a4 a5 a6 a7 a8 a9 e0 e1 e2 e3 e4 e5 e6
  generalize valsN al6 = vv at *
  generalize al0 = t0 at *
  generalize al1 = t1 at *
  generalize al2 = t2 at *
  generalize al3 = t3 at *
  generalize al4 = t4 at *
  generalize al5 = t5 at *
  generalize al6 = t6 at *
  have HAF : True := trivial
  have HBF : True := trivial
  go_enter Try.func7, Try.ntmps7
  go_wp2_with (first
    | (go_at_call 8; refine K0.out.mono ?_; rintro e w1 ⟨g, rfl, h, _, _⟩; have H1 := Lib.hid h; clear h)
    | (go_at_call 10; (have HFIRST := HAF); clear HAF; refine (K1.out _ _ H1.out).mono ?_; rintro e w2 ⟨rfl, h⟩; have H2 := Lib.hid h; clear h H1)
    | (go_at_call 10; (have HSECOND := HBF); clear HBF; refine (K2.out _ _ H2.out).mono ?_; rintro e w3 ⟨rfl, h⟩; have H3 := Lib.hid h; clear h H2)
    | (go_at_call 16; refine (K3.out _ _ H3.out).mono ?_; rintro e w4 ⟨rfl, h⟩; have H4 := Lib.hid h; clear h H3)
    | (go_at_call 12; refine (K4.out _ _ H4.out).mono ?_; rintro e w5 ⟨rfl, h⟩; have H5 := Lib.hid h; clear h H4)
    | (go_at_call 14; refine (K5.out _ _ H5.out).mono ?_; rintro e w6 ⟨rfl, h⟩; have H6 := Lib.hid h; clear h H5)
    | (go_at_call 10; refine (K6.out _ _ H6.out).mono ?_; rintro e w7 ⟨rfl, h⟩; have H7 := Lib.hid h; clear h H6)
    | (go_at_call 21; refine (K7.out _ _ H7.out).mono ?_; rintro e w8 ⟨rfl, hb⟩; have H8 := Lib.hid (H7.out.on hb); clear hb H7)
    | (with_reducible refine Hz.val_arm (o := ⟨some 66, .index _ _ _, _, _, _, _⟩) (by kernel_rfl) (ex_indexV rfl rfl rfl (ix _)) ?_)
    | (go_at_call 19; refine (K8.out _ _ H8.out).mono ?_; rintro e w9 ⟨rfl, hb⟩; have H9 := Lib.hid (H8.out.on hb); clear hb H8)
    | (go_at_call 18; refine (K9.out _ _ H9.out).mono ?_; rintro e w10 ⟨rfl, rfl⟩))
  go_ret
  exact ⟨rfl, H9.out.low⟩
end Go.Proofs.Ytoahejjeihmiiaa
