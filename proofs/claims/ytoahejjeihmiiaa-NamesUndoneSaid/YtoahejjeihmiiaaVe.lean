/- Operations of a region that draws its order, and writes there: lists, numbers, addresses. Of no program. (Gathered out of stage 12's texts.) -/
import Derived.Test.YtoahejjeihmiiaaMd
import Derived.IntWalk
import Derived.Laws.OwnMore
set_option maxRecDepth 100000
set_option linter.unusedVariables false
namespace Go.Proofs.Ytoahejjeihmiiaa
open Go.RowKit

section
variable {P : Program} {o : Oper} {a : Act} {w : World} {K : Act → World → Prop} {Q : Exit → Act → World → Prop}
theorem ex_from {t : TypeId} {x lo : Operand} {e : TypeId} {g off n c : Nat} {p : Nat} (ho : o.op = .slice t x (some lo) none none) (hx : a.eval x = .slice (some ⟨g, off, none⟩) n c) (hl : a.eval lo = .int .i64 (p : Int))
    (hn : p ≤ n) (hc : n ≤ c) (h1 : p < c) (he : P.underlying t = some (.slice e)) (hs : (sizeOf e).run P w = .ok 1 w) :
    (execOp a.eval o).run P w = .ok (.value (.slice (some ⟨g, off + p, none⟩) (n - p) (c - p))) w := by
  have hu : P.underlying t = some (.slice (P.elem t)) := by rw [he]; simp [Program.elem, he]
  have hp : (p : Int) ≤ (n : Int) := by omega
  have hp0 : (0 : Int) ≤ (p : Int) := by omega
  unfold execOp
  simp only [ho, hx, Option.map_some, Option.map_none, hl, Sem.run_bind, run_sliceAt_slice _ _ _ _ _ _ hu, run_slice_any _ _ _ _ _ hu]
  simp [Instr.sliceBounds, go_sem, hp, hp0, he, hs, sliced]
  omega
theorem ex_from0 {t : TypeId} {x lo : Operand} {e : TypeId} {g n c : Nat} {p : Nat} (ho : o.op = .slice t x (some lo) none none) (hx : a.eval x = .slice (some ⟨g, 0, none⟩) n c) (hl : a.eval lo = .int .i64 (p : Int))
    (hn : p ≤ n) (hc : n ≤ c) (h1 : p < c) (he : P.underlying t = some (.slice e)) (hs : (sizeOf e).run P w = .ok 1 w) :
    (execOp a.eval o).run P w = .ok (.value (.slice (some ⟨g, p, none⟩) (n - p) (c - p))) w := by
  have h := ex_from ho hx hl hn hc h1 he hs
  rw [Nat.zero_add] at h
  exact h
theorem ex_to {t : TypeId} {x hi : Operand} {e : TypeId} {A : Option Addr} {n c : Nat} {p : Nat} (ho : o.op = .slice t x none (some hi) none) (hx : a.eval x = .slice A n c) (hl : a.eval hi = .int .i64 (p : Int))
    (hc : p ≤ c) (he : P.underlying t = some (.slice e)) (hs : (sizeOf e).run P w = .ok 1 w) :
    (execOp a.eval o).run P w = .ok (.value (.slice A p c)) w := by
  have hu : P.underlying t = some (.slice (P.elem t)) := by rw [he]; simp [Program.elem, he]
  have hp : (p : Int) ≤ (c : Int) := by omega
  have hp0 : (0 : Int) ≤ (p : Int) := by omega
  unfold execOp
  simp only [ho, hx, Option.map_some, Option.map_none, hl, Sem.run_bind, run_sliceAt_slice _ _ _ _ _ _ hu, run_slice_any _ _ _ _ _ hu]
  simp [Instr.sliceBounds, go_sem, hp, hp0, he, hs, sliced]
theorem ex_addI {t u : TypeId} {x y : Operand} {m n : Int} (ho : o.op = .binOp .add t x y u) (hx : a.eval x = .int .i64 m) (hy : a.eval y = .int .i64 n) (h : -9223372036854775808 ≤ m + n ∧ m + n ≤ 9223372036854775807) :
    (execOp a.eval o).run P w = .ok (.value (.int .i64 (m + n))) w := by
  have e : IntKind.i64.wrap (m + n) = m + n := by rw [IntKind.wrap_i64]; omega
  unfold execOp
  simp only [ho, hx, hy, eqGuard_at_int]
  simp [go_sem, e]
/-- One value into one cell. -/
theorem wp_store_one {ty : TypeId} {x y : Operand} {ad : Addr} {v old : Value} (ho : o.op = .store ty x y) (hd : o.dst = none) (hx : a.eval x = .pointer (some ad)) (hy : a.eval y = v) (hc : w.cell? ad = some old) (hf : w.frozen? ad = false) (hz : (sizeOf ty).run P w = .ok 1 w) (hv : v.cells = #[v]) (h1 : v.oneCell' = true)
    (hk : K a (w.setCell ad v)) : o.wp P a w K Q := by
  have hr : (Instr.storeAt ty (.pointer (some ad)) v).run P w = .ok () (w.setCell ad v) := by
    have hst : (store ad v .plain).run P w = .ok () (w.setCell ad v) := by rw [run_store P w ad v _ h1, hc, hf]; rfl
    have ha : ad.add 0 = ad := by cases ad; unfold Addr.add; split <;> simp_all
    simp [Instr.storeAt, Instr.sureAddr, storeVar, storeCells, hz, hv, ha, hst]
  exact wp_store_cell ho hd hx hy hr hk
theorem ex_index {t : TypeId} {x ix : Operand} {e : TypeId} {g n c j : Nat} {q : Int} (ho : o.op = .indexAddr t x ix) (hx : a.eval x = .slice (some ⟨g, 0, none⟩) n c) (hi : a.eval ix = .int .i64 q) (hq : q = (j : Int)) (hj : j < n) (he : P.underlying t = some (.slice e)) (hs : (sizeOf e).run P w = .ok 1 w) :
    (execOp a.eval o).run P w = .ok (.value (.pointer (some ⟨g, j, none⟩))) w := by
  subst hq
  have h0 : (0 : Int) ≤ (j : Int) ∧ (j : Int) < (n : Int) := by omega
  have ha : (⟨g, 0, none⟩ : Addr).add j = ⟨g, j, none⟩ := by unfold Addr.add; split <;> simp_all
  unfold execOp
  simp [ho, hx, hi, Instr.indexAt, asIntOf, run_underlying he, hs, h0, ha, hj]
/-- The address of an element of z cells. -/
theorem ex_indexz {t : TypeId} {x ix : Operand} {e : TypeId} {g off n c j z : Nat} {q : Int} (ho : o.op = .indexAddr t x ix) (hx : a.eval x = .slice (some ⟨g, off, none⟩) n c) (hi : a.eval ix = .int .i64 q) (hq : q = (j : Int)) (hj : j < n) (he : P.underlying t = some (.slice e)) (hs : (sizeOf e).run P w = .ok z w) :
    (execOp a.eval o).run P w = .ok (.value (.pointer (some ⟨g, off + j * z, none⟩))) w := by
  subst hq
  have h0 : (0 : Int) ≤ (j : Int) ∧ (j : Int) < (n : Int) := by omega
  have ha : (⟨g, off, none⟩ : Addr).add (j * z) = ⟨g, off + j * z, none⟩ := by unfold Addr.add; split <;> simp_all
  unfold execOp
  simp [ho, hx, hi, Instr.indexAt, asIntOf, run_underlying he, hs, h0, ha, hj]
theorem ex_subI {t u : TypeId} {x y : Operand} {m n : Int} (ho : o.op = .binOp .sub t x y u) (hx : a.eval x = .int .i64 m) (hy : a.eval y = .int .i64 n) (h : -9223372036854775808 ≤ m - n ∧ m - n ≤ 9223372036854775807) :
    (execOp a.eval o).run P w = .ok (.value (.int .i64 (m - n))) w := by
  have e : IntKind.i64.wrap (m - n) = m - n := by rw [IntKind.wrap_i64]; omega
  unfold execOp
  simp only [ho, hx, hy, eqGuard_at_int]
  simp [go_sem, e]
theorem ex_mulI {t u : TypeId} {x y : Operand} {m n : Int} (ho : o.op = .binOp .mul t x y u) (hx : a.eval x = .int .i64 m) (hy : a.eval y = .int .i64 n) (h : -9223372036854775808 ≤ m * n ∧ m * n ≤ 9223372036854775807) :
    (execOp a.eval o).run P w = .ok (.value (.int .i64 (m * n))) w := by
  have e : IntKind.i64.wrap (m * n) = m * n := by rw [IntKind.wrap_i64]; omega
  unfold execOp
  simp only [ho, hx, hy, eqGuard_at_int]
  simp [go_sem, e]
theorem ex_cmpI {op : BinOp} {t u : TypeId} {x y : Operand} {m n : Int} {b : Bool} (ho : o.op = .binOp op t x y u) (hx : a.eval x = .int .i64 m) (hy : a.eval y = .int .i64 n) (h : (binOp op t (.int .i64 m) (.int .i64 n)).run P w = .ok (.bool b) w) :
    (execOp a.eval o).run P w = .ok (.value (.bool b)) w := by
  unfold execOp
  simp only [ho, hx, hy, eqGuard_at_int]
  simp [h]
theorem ex_leI {t u : TypeId} {x y : Operand} {m n : Int} {b : Bool} (ho : o.op = .binOp .leq t x y u) (hx : a.eval x = .int .i64 m) (hy : a.eval y = .int .i64 n) (h : decide (m ≤ n) = b) :
    (execOp a.eval o).run P w = .ok (.value (.bool b)) w := by
  subst h
  unfold execOp
  simp only [ho, hx, hy, eqGuard_at_int]
  simp [go_sem]
theorem ex_ltI {t u : TypeId} {x y : Operand} {m n : Int} {b : Bool} (ho : o.op = .binOp .lss t x y u) (hx : a.eval x = .int .i64 m) (hy : a.eval y = .int .i64 n) (h : decide (m < n) = b) :
    (execOp a.eval o).run P w = .ok (.value (.bool b)) w := by
  subst h
  unfold execOp
  simp only [ho, hx, hy, eqGuard_at_int]
  simp [go_sem]
/-- uint(x) of a number that isn't below 0. -/
theorem ex_uint {s d : TypeId} {x : Operand} {n : Int} (ho : o.op = .convert s d x) (hx : a.eval x = .int .i64 n) (h0 : 0 ≤ n) (h1 : n ≤ 9223372036854775807) (hs : P.underlying s = some (.int .i64)) (hd : P.underlying d = some (.int .u64)) :
    (execOp a.eval o).run P w = .ok (.value (.int .u64 n)) w := by
  have e : IntKind.u64.wrap n = n := by rw [IntKind.wrap_u64]; omega
  unfold execOp
  simp only [ho, hx]
  unfold convert
  simp [run_underlying hs, run_underlying hd, Conv.intToInt, e]
/-- byte(x). -/
theorem ex_byte {s d : TypeId} {x : Operand} {n : Int} (ho : o.op = .convert s d x) (hx : a.eval x = .int .u64 n) (hs : P.underlying s = some (.int .u64)) (hd : P.underlying d = some (.int .u8)) :
    (execOp a.eval o).run P w = .ok (.value (.int .u8 (n % 256))) w := by
  unfold execOp
  simp only [ho, hx]
  unfold convert
  simp [run_underlying hs, run_underlying hd, Conv.intToInt, IntKind.wrap_u8]
/-- x >> c. -/
theorem ex_shr {t u : TypeId} {x y : Operand} {n c : Int} (ho : o.op = .binOp .shr t x y u) (hx : a.eval x = .int .u64 n) (hy : a.eval y = .int .u64 c) (hc : 0 ≤ c) (hc2 : c < 64) :
    (execOp a.eval o).run P w = .ok (.value (.int .u64 (n / 2 ^ c.toNat))) w := by
  unfold execOp
  simp only [ho, hx, hy, eqGuard_at_int]
  simp [go_sem]
theorem ex_eqI {t u : TypeId} {x y : Operand} {m n : Int} {b : Bool} (ho : o.op = .binOp .eql t x y u) (hx : a.eval x = .int .i64 m) (hy : a.eval y = .int .i64 n) (h : decide (m = n) = b) :
    (execOp a.eval o).run P w = .ok (.value (.bool b)) w := by
  subst h
  unfold execOp
  simp only [ho, hx, hy, eqGuard_at_int]
  simp [go_sem]
  rw [Bool.eq_iff_iff]; simp
end
/-- A cell of a slice that reads as a list, in every world behind. -/
theorem rd_cell {w : World} {A : Option Addr} {xs : List Value} {q : Nat} {v : Value} (h : Rd w w.heap.size A xs) (hq : xs[q]? = some v) : ∃ b off, A = some ⟨b, off, none⟩ ∧ ∀ x, BW w x → x.cell? ⟨b, off + q, none⟩ = some v := by
  rcases h with h0 | ⟨b, off, rfl, hb, hc⟩
  · rw [h0] at hq; cases hq
  · exact ⟨b, off, rfl, fun x hx => (Below.cell hx (p := ⟨b, off + q, none⟩) hb).trans (hc q v hq)⟩
theorem ex_load4 {P : Program} {o : Oper} {a : Act} {w : World} {ty : TypeId} {x : Operand} {g k : Nat} {u0 u1 u2 u3 : Value} (ho : o.op = .load ty x) (hx : a.eval x = .pointer (some ⟨g, k, none⟩)) (h0 : w.cell? ⟨g, k, none⟩ = some u0) (h1 : w.cell? ⟨g, k + 1, none⟩ = some u1) (h2 : w.cell? ⟨g, k + 2, none⟩ = some u2) (h3 : w.cell? ⟨g, k + 3, none⟩ = some u3)
    {d : TypeDesc} (hu : P.underlying ty = some d) (hd : d.isRow = true) (hi : (P.info? ty).map (·.size) = some 4) : (execOp a.eval o).run P w = .ok (.value (.agg #[u0, u1, u2, u3])) w := by
  have hr := run_loadAt_mid (P := P) w g k ty [u0, u1, u2, u3] d (fun j v hv => by
    match j, hv with
    | 0, hv => exact h0.trans hv
    | 1, hv => exact h1.trans hv
    | 2, hv => exact h2.trans hv
    | 3, hv => exact h3.trans hv) hu hd hi
  unfold execOp
  simp only [ho, hx, Sem.run_bind, Sem.run_pure, Result.andThen_ok, hr]
end Go.Proofs.Ytoahejjeihmiiaa
