/- slices.Delete of one entry. -/
import Derived.Test.YtcddgcchpmjdiaaVh
import Derived.Lib.SliceRun
set_option maxRecDepth 100000
set_option linter.unusedVariables false
namespace Go.Proofs.Ytcddgcchpmjdiaa
open Go.RowKit

section
variable {P : Program} {o : Oper} {a : Act} {w : World} {K : Act → World → Prop} {Q : Exit → Act → World → Prop}
theorem ex_toz {t : TypeId} {x hi : Operand} {e : TypeId} {A : Option Addr} {n c z : Nat} {p : Nat} (ho : o.op = .slice t x none (some hi) none) (hx : a.eval x = .slice A n c) (hl : a.eval hi = .int .i64 (p : Int))
    (hc : p ≤ c) (he : P.underlying t = some (.slice e)) (hs : (sizeOf e).run P w = .ok z w) :
    (execOp a.eval o).run P w = .ok (.value (.slice A p c)) w := by
  have hu : P.underlying t = some (.slice (P.elem t)) := by rw [he]; simp [Program.elem, he]
  have hp : (p : Int) ≤ (c : Int) := by omega
  have hp0 : (0 : Int) ≤ (p : Int) := by omega
  unfold execOp
  simp only [ho, hx, Option.map_some, Option.map_none, hl, Sem.run_bind, run_sliceAt_slice _ _ _ _ _ _ hu, run_slice_any _ _ _ _ _ hu]
  simp [Instr.sliceBounds, go_sem, hp, hp0, he, hs, sliced]
theorem ex_fromz {t : TypeId} {x lo : Operand} {e : TypeId} {g n c z : Nat} {p : Nat} (ho : o.op = .slice t x (some lo) none none) (hx : a.eval x = .slice (some ⟨g, 0, none⟩) n c) (hl : a.eval lo = .int .i64 (p : Int))
    (hn : p ≤ n) (hc : n ≤ c) (he : P.underlying t = some (.slice e)) (hs : (sizeOf e).run P w = .ok z w) :
    (execOp a.eval o).run P w = .ok (.value (.slice (some (if c = p then ⟨g, 0, none⟩ else ⟨g, p * z, none⟩)) (n - p) (c - p))) w := by
  have hu : P.underlying t = some (.slice (P.elem t)) := by rw [he]; simp [Program.elem, he]
  have hp : (p : Int) ≤ (n : Int) := by omega
  have hp0 : (0 : Int) ≤ (p : Int) := by omega
  have ha : (⟨g, 0, none⟩ : Addr).add (p * z) = ⟨g, p * z, none⟩ := by unfold Addr.add; split <;> simp_all
  unfold execOp
  simp only [ho, hx, Option.map_some, Option.map_none, hl, Sem.run_bind, run_sliceAt_slice _ _ _ _ _ _ hu, run_slice_any _ _ _ _ _ hu]
  by_cases h : c = p
  · subst h
    simp [Instr.sliceBounds, go_sem, hp, hp0, he, hs, sliced]
  · simp [Instr.sliceBounds, go_sem, hp, hp0, he, hs, sliced, h]
theorem wp_append_fits (s x : Operand) (t : TypeId) (ho : o.op = Op.call { callee := Callee.builtin Builtin.append, args := #[s, x], argTypes := #[t, t] })
    (base : Nat) (e : TypeId) (i : TypeInfo) (size : Nat) (h1 : P.underlying t = some (.slice e)) (h2 : P.info? e = some i) (h4 : i.size = size)
    (g k cap : Nat) (xs : List Value) (hs : a.eval s = .slice (some ⟨g, 0, none⟩) k cap) (hown : w.ownsRow base e size (.slice (some ⟨g, 0, none⟩) k cap) k xs) (ad : Addr) (m c : Nat) (news : List Value) (hx : a.eval x = .slice (some ad) m c) (hn : news.length = m * size)
    (hc : ∀ j u, news[j]? = some u → w.cell? (ad.add j) = some u) (h1c : ∀ u ∈ news, u.oneCell' = true) (b1 : k + m ≤ cap)
    (hK : ∀ w', w'.ownsRow base e size (.slice (some ⟨g, 0, none⟩) (k + m) cap) (k + m) (xs ++ news) → w.grownBy w' (some g) → K (a.put o.dst (.slice (some ⟨g, 0, none⟩) (k + m) cap)) w') : o.wp P a w K Q := by
  obtain ⟨w', hrun, r1, r2⟩ := run_append_fits (P := P) w base t o.type e i size h1 h2 h4 g k cap xs hown ad m c news hn hc h1c b1
  unfold Oper.wp execOp
  simp only [ho, resolve, invoke, builtin, Sem.run_bind, Sem.run_pure, Result.andThen_ok, List.map_toArray, List.map_cons, List.map_nil, hs, hx, hrun]
  exact hK w' r1 r2
end
/-! ### An entries' row -/
theorem cellsE_take (l : Lent) (k : Nat) : (cellsE l).take (k * 2) = cellsE (l.take k) := by
  induction l generalizing k with
  | nil => simp [cellsE]
  | cons d l ih =>
    cases k with
    | zero => simp [cellsE]
    | succ k =>
      have := ih k
      unfold cellsE at this ⊢
      rw [List.take_succ_cons, List.flatMap_cons, List.flatMap_cons, ← this, show (k + 1) * 2 = k * 2 + 2 by omega]
      rfl
theorem cellsE_drop (l : Lent) (k : Nat) : (cellsE l).drop (k * 2) = cellsE (l.drop k) := by
  induction l generalizing k with
  | nil => simp [cellsE]
  | cons d l ih =>
    cases k with
    | zero => simp [cellsE]
    | succ k =>
      have := ih k
      unfold cellsE at this ⊢
      rw [List.drop_succ_cons, List.flatMap_cons, ← this, show (k + 1) * 2 = k * 2 + 2 by omega]
      rfl
theorem rows_cut {w : World} {b n cap k : Nat} {l : Lent} (h : w.ownsRow 0 60 2 (.slice (some ⟨b, 0, none⟩) n cap) n (cellsE l)) (hcap : n ≤ cap) (hn : l.length = n) (hk : k ≤ n) : w.ownsRow 0 60 2 (.slice (some ⟨b, 0, none⟩) k cap) k (cellsE (l.take k)) := by
  rcases h.2 with ⟨h1, _⟩ | ⟨g, cap', cur, hv, h0, hg, h2, h3, h4, h5⟩
  · cases h1
  · cases hv
    refine ⟨by rw [cellsE_len, List.length_take]; omega, .inr ⟨b, cap, cur, rfl, h0, hg, by omega, h3, h4, ?_⟩⟩
    rw [← cellsE_take, ← h5, List.take_take]
    congr 1
    omega
theorem rows_tail {w : World} {b n cap j : Nat} {l : Lent} (h : w.ownsRow 0 60 2 (.slice (some ⟨b, 0, none⟩) n cap) n (cellsE l)) (hn : l.length = n) (hj : j ≤ n) :
    ∀ i u, (cellsE (l.drop j))[i]? = some u → w.cell? ((if cap = j then (⟨b, 0, none⟩ : Addr) else ⟨b, j * 2, none⟩).add i) = some u := by
  intro i u hu
  have hi : i < (cellsE (l.drop j)).length := (List.getElem?_eq_some_iff.1 hu).1
  rw [cellsE_len, List.length_drop] at hi
  have hc : ¬ cap = j := by
    rcases h.2 with ⟨h1, _⟩ | ⟨g, cap', cur, hv, h0, hg, h2, h3, h4, h5⟩
    · cases h1
    · cases hv; omega
  rw [if_neg hc, show (⟨b, j * 2, none⟩ : Addr).add i = (⟨b, 0, none⟩ : Addr).add (j * 2 + i) by unfold Addr.add; split <;> simp_all]
  refine h.cells (g := b) rfl (j * 2 + i) u ?_
  rw [← cellsE_drop, List.getElem?_drop] at hu
  exact hu
/-- Cells behind a row are set. -/
theorem rows_behind {w : World} {e : TypeId} {z b n cap : Nat} {xs : List Value} (h : w.ownsRow 0 e z (.slice (some ⟨b, 0, none⟩) n cap) n xs) {q : Nat} (hq : n * z ≤ q) (v : Value) : (w.setCell ⟨b, q, none⟩ v).ownsRow 0 e z (.slice (some ⟨b, 0, none⟩) n cap) n xs := by
  rcases h.2 with ⟨h1, _⟩ | ⟨g, cap', cur, hv, h0, hg, h2, h3, h4, h5⟩
  · cases h1
  · cases hv
    refine ⟨h.1, .inr ⟨b, cap, cur.setIfInBounds q v, rfl, h0, ?_, h2, h3, by simpa using h4, ?_⟩⟩
    · have hb : Blk cur e b w := hg
      exact hb.set q v
    · rw [← h5, Array.toList_setIfInBounds]
      exact List.take_set_of_le hq
/-- The entry that goes. -/
theorem run_clear_one {w : World} {b q c : Nat} {v0 v1 : Value} (h0 : w.cell? ⟨b, q, none⟩ = some v0) (h1 : w.cell? ⟨b, q + 1, none⟩ = some v1) (f0 : w.frozen? ⟨b, q, none⟩ = false) (f1 : w.frozen? ⟨b, q + 1, none⟩ = false) (ty : TypeId) :
    (Builtin.clear_ #[25] ty #[.slice (some ⟨b, q, none⟩) 1 c]).run Try.prog w = .ok (.tuple #[]) ((w.setCell ⟨b, q, none⟩ (.int .i64 0)).setCell ⟨b, q + 1, none⟩ (.slice none 0 0)) := by
  have hst := run_storeCells_cells (P := Try.prog) b q [.int .i64 0, .slice none 0 0] 0 w (fun j hj => by
    match j, hj with
    | 0, _ => exact Option.isSome_of_eq_some h0
    | 1, _ => exact Option.isSome_of_eq_some h1) (fun j hj => by
    match j, hj with
    | 0, _ => exact f0
    | 1, _ => exact f1) (by intro v hv; simp at hv; rcases hv with rfl | rfl <;> rfl)
  simp only [Nat.add_zero] at hst
  have hz : (Builtin.zeroCells #[Value.int .i64 0, .slice none 0 0] 1).toList = [.int .i64 0, .slice none 0 0] := by simp [Builtin.zeroCells]; rfl
  have hv : ∀ w, (zeroValue 60).run Try.prog w = .ok (.agg #[.int .i64 0, .slice none 0 0]) w := fun w => by kernel_rfl
  have hcs : (Value.agg #[.int .i64 0, .slice none 0 0]).cells = #[Value.int .i64 0, .slice none 0 0] := rfl
  simp [Builtin.clear_, run_underlying Try.underlying25, hv, hcs, hz, hst, World.setCells]
set_option maxHeartbeats 4000000 in
theorem delete_c {w : World} {b n cap : Nat} {l : Lent} (h : w.ownsRow 0 60 2 (.slice (some ⟨b, 0, none⟩) n cap) n (cellsE l)) (hn : l.length = n) (hone : ∀ u ∈ cellsE l, u.oneCell' = true) (k : Nat) (hk : k < n) (hn4 : n ≤ 4) :
    Calls Try.prog 37 #[.slice (some ⟨b, 0, none⟩) n cap, .int .i64 (k : Int), .int .i64 ((k : Int) + 1)] w fun e w' => e = .returned (.slice (some ⟨b, 0, none⟩) (n - 1) cap) ∧ w'.ownsRow 0 60 2 (.slice (some ⟨b, 0, none⟩) (n - 1) cap) (n - 1) (cellsE (l.eraseIdx k)) ∧ Fr [b] w w' := by
  obtain ⟨i0, hi, hz0, hz1, hz2⟩ := inf_parts (P := Try.prog) (e := 60) (z := .agg #[.int .i64 0, .slice none 0 0]) (n := 2) (b := 32) (by kernel_rfl)
  have hcap : n ≤ cap := by
    rcases h.2 with ⟨h1, _⟩ | ⟨g, cap', cur, hv, h0, hg, h2, h3, h4, h5⟩
    · cases h1
    · cases hv; exact h2
  have hcm : cap ≤ maxLen := by
    rcases h.2 with ⟨h1, _⟩ | ⟨g, cap', cur, hv, h0, hg, h2, h3, h4, h5⟩
    · cases h1
    · cases hv; exact h3
  have HN := Lib.hid hn
  have H1 : Hid (∀ u ∈ cellsE (l.drop (k + 1)), u.oneCell' = true) := Lib.hid (fun u hu => hone u (by rw [← cellsE_drop] at hu; exact List.mem_of_mem_drop hu))
  have HS0 := Lib.hid (show w.drew.ownsRow 0 60 2 (.slice (some ⟨b, 0, none⟩) n cap) n (cellsE l) ∧ Fr [b] w w.drew from ⟨h.drew, (Fr.refl _ _).drew⟩)
  have hkn : k ≤ n := by omega
  obtain ⟨j, hj⟩ : ∃ j, k + 1 = j := ⟨_, rfl⟩
  have hjI : ((k : Int) + 1) = (j : Int) := by omega
  have hjn : j ≤ n := by omega
  rw [hj] at H1
  rw [hjI]
  have hkj : ¬ (k : Int) = (j : Int) := by omega
  have hjc : j ≤ cap := by omega
  clear h hn hone
  unfold maxLen at hcm
  go_enter Try.func37, Try.ntmps37
  go_upto_region 5 with (fail)
  refine wp_region_P (S := fun x => x.ownsRow 0 60 2 (.slice (some ⟨b, 0, none⟩) n cap) n (cellsE l) ∧ Fr [b] w x) (c := 6) (by kernel_rfl) ?_
  change wpAnyP _ _ _ _ _ _ _ _ _ (World.drew _)
  have HS := HS0
  clear HS0
  generalize World.drew _ = w0 at *
  refine hp_val (i := 0) (oi := ⟨some 20, .move _, _, _, _, _⟩) [2, 6] (.slice (some ⟨b, 0, none⟩) n cap) rfl (by kernel_rfl) (by kernel_rfl) (by kernel_rfl) (by kernel_rfl) (by kernel_rfl) rfl (fun _ _ _ h => h) (by kernel_rfl) (fun _ _ => rfl) HS.out ?_
  simp only [Act.put, List.setIfInBounds_toArray, List.set_cons_zero, List.set_cons_succ]
  refine hp_val (i := 1) (oi := ⟨some 21, .move _, _, _, _, _⟩) [2, 6] (.int .i64 (k : Int)) rfl (by kernel_rfl) (by kernel_rfl) (by kernel_rfl) (by kernel_rfl) (by kernel_rfl) rfl (fun _ _ _ h => h) (by kernel_rfl) (fun _ _ => rfl) HS.out ?_
  simp only [Act.put, List.setIfInBounds_toArray, List.set_cons_zero, List.set_cons_succ]
  refine hp_val (i := 2) (oi := ⟨some 22, .slice _ _ _ _ _, _, _, _, _⟩) [6] (.slice (some ⟨b, 0, none⟩) k cap) rfl (by kernel_rfl) (by kernel_rfl) (by kernel_rfl) (by kernel_rfl) (by kernel_rfl) rfl (fun _ _ _ h => h) (by kernel_rfl) (fun _ _ => ex_toz (z := 2) rfl rfl rfl (by omega) Try.underlying25 (by kernel_rfl)) HS.out ?_
  simp only [Act.put, List.setIfInBounds_toArray, List.set_cons_zero, List.set_cons_succ]
  refine hp_val (i := 3) (oi := ⟨some 23, .move _, _, _, _, _⟩) [5, 6] (.slice (some ⟨b, 0, none⟩) n cap) rfl (by kernel_rfl) (by kernel_rfl) (by kernel_rfl) (by kernel_rfl) (by kernel_rfl) rfl (fun _ _ _ h => h) (by kernel_rfl) (fun _ _ => rfl) HS.out ?_
  simp only [Act.put, List.setIfInBounds_toArray, List.set_cons_zero, List.set_cons_succ]
  refine hp_val (i := 4) (oi := ⟨some 24, .move _, _, _, _, _⟩) [5, 6] (.int .i64 (j : Int)) rfl (by kernel_rfl) (by kernel_rfl) (by kernel_rfl) (by kernel_rfl) (by kernel_rfl) rfl (fun _ _ _ h => h) (by kernel_rfl) (fun _ _ => rfl) HS.out ?_
  simp only [Act.put, List.setIfInBounds_toArray, List.set_cons_zero, List.set_cons_succ]
  refine hp_val (i := 5) (oi := ⟨some 25, .slice _ _ _ _ _, _, _, _, _⟩) [6] (.slice (some (if cap = j then ⟨b, 0, none⟩ else ⟨b, j * 2, none⟩)) (n - j) (cap - j)) rfl (by kernel_rfl) (by kernel_rfl) (by kernel_rfl) (by kernel_rfl) (by kernel_rfl) rfl (fun _ _ _ h => h) (by kernel_rfl) (fun _ _ => ex_fromz (z := 2) rfl rfl rfl (by omega) hcap Try.underlying25 (by kernel_rfl)) HS.out ?_
  simp only [Act.put, List.setIfInBounds_toArray, List.set_cons_zero, List.set_cons_succ]
  refine hp_last (i := 6) (oi := ⟨some 26, .call _, _, _, _, _⟩) (by kernel_rfl) rfl (by kernel_rfl) (by kernel_rfl) ?_
  refine wp_append_fits (.tmp 22) (.tmp 25) 25 rfl 0 60 i0 2 Try.underlying25 hi hz1 b k cap (cellsE (l.take k)) rfl (rows_cut HS.out.1 hcap HN.out hkn) _ (n - j) (cap - j) (cellsE (l.drop j)) rfl (by rw [cellsE_len, List.length_drop, HN.out]) (rows_tail HS.out.1 HN.out hjn) (fun u hu => ?_) (by omega) ?_
  · exact H1.out u hu
  intro w1 ho1 hg1
  simp only [Act.put, List.setIfInBounds_toArray, List.set_cons_zero, List.set_cons_succ]
  refine hk_val (i := 7) (oi := ⟨some 0, .assign _, _, _, _, _⟩) (.slice (some ⟨b, 0, none⟩) (k + (n - j)) cap) rfl (by kernel_rfl) (by kernel_rfl) (by kernel_rfl) (fun _ _ _ h => h) (by kernel_rfl) (fun _ _ => rfl) trivial ?_
  simp only [Act.put, List.setIfInBounds_toArray, List.set_cons_zero]
  refine wpAnyH_done (by kernel_rfl) ?_ _
  have hF1 := HS.out.2.grown hg1 (fun i e => by cases e; exact .inl (by simp))
  clear HS hg1
  obtain ⟨r, hr⟩ : ∃ r, k + (n - j) = r := ⟨_, rfl⟩
  rw [hr] at ho1 ⊢
  have hrn : n - r = 1 := by omega
  have hr1 : r = n - 1 := by omega
  have hrI : (r : Int) ≤ (n : Int) ∧ (n : Int) ≤ (cap : Int) := by omega
  obtain ⟨cur, hcur, hcs⟩ : ∃ cur, Blk cur 60 b w1 ∧ cur.size = cap * 2 := by
    rcases ho1.2 with ⟨h1, _⟩ | ⟨g, cap', cur, hv, h0, hg, h2, h3, h4, h5⟩
    · cases h1
    · cases hv; exact ⟨cur, hg, h4⟩
  have hcl : ∀ ty, (Builtin.clear_ #[25] ty #[.slice (some ⟨b, r * 2, none⟩) (n - r) (cap - r)]).run Try.prog w1 = .ok (.tuple #[]) ((w1.setCell ⟨b, r * 2, none⟩ (.int .i64 0)).setCell ⟨b, r * 2 + 1, none⟩ (.slice none 0 0)) := fun ty => by
    rw [hrn]
    exact run_clear_one ((hcur.cell (r * 2)).trans (Array.getElem?_eq_getElem (by omega))) ((hcur.cell (r * 2 + 1)).trans (Array.getElem?_eq_getElem (by omega))) (hcur.free _) (hcur.free _) ty
  have hrc : ¬ cap = r := by omega
  have HO := Lib.hid (rows_behind (q := r * 2 + 1) (rows_behind ho1 (Nat.le_refl (r * 2)) (.int .i64 0)) (by omega) (.slice none 0 0))
  have HF := Lib.hid ((hF1.setCell (p := ⟨b, r * 2, none⟩) (.inl (by simp)) (.int .i64 0)).setCell (p := ⟨b, r * 2 + 1, none⟩) (.inl (by simp)) (.slice none 0 0))
  have HE := Lib.hid (show cellsE (l.take k) ++ cellsE (l.drop j) = cellsE (l.eraseIdx k) by rw [← cellsE_append, ← hj, List.eraseIdx_eq_take_drop_succ])
  have HR := Lib.hid hr1
  clear ho1 hF1 hcur hcs hr hr1 hrn
  obtain ⟨A25, hA25⟩ : ∃ A25, (if cap = j then (⟨b, 0, none⟩ : Addr) else ⟨b, j * 2, none⟩) = A25 := ⟨_, rfl⟩
  rw [hA25]
  clear hA25
  go_wp2
  all_goals go_ret
  all_goals rw [← HR.out, ← HE.out]
  all_goals exact ⟨rfl, HO.out, HF.out⟩
end Go.Proofs.Ytcddgcchpmjdiaa
