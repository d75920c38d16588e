/- A row that lies somewhere in a block, maybe with more on either side of it: slices that were cut, and appends onto them. Of no program. -/
import Derived.Test.YtoahejjeihmiiaaHz
import Derived.Test.YtoahejjeihmiiaaMm
import Derived.ArgAppend
set_option maxRecDepth 100000
set_option linter.unusedVariables false
namespace Go.Proofs.Ytoahejjeihmiiaa
open Go.RowKit

theorem grown_setCells (g : Nat) : ∀ (vs : List Value) (o : Nat) (w : World), w.grownBy (w.setCells g o vs) (some g)
  | [], _, w => ⟨rfl, rfl, rfl, Nat.le_refl _, fun _ _ _ => rfl⟩
  | v :: vs, o, w => by
    have ih := grown_setCells g vs (o + 1) (w.setCell ⟨g, o, none⟩ v)
    have hs : (w.setCell ⟨g, o, none⟩ v).heap.size = w.heap.size := by simp [World.setCell]
    refine ⟨ih.os, ih.tape, ih.output, by rw [← hs]; exact ih.size, fun k hk hn => ?_⟩
    have h1 := ih.block k (by rw [hs]; exact hk) hn
    have h2 : (w.setCell ⟨g, o, none⟩ v).heap[k]? = w.heap[k]? := Below.heap_setCell _ _ _ _ (fun e => hn (by rw [e]))
    exact h1.trans h2
theorem Blk.setCells {t : TypeId} {g : Nat} : ∀ (vs : List Value) (o : Nat) (w : World) (D : Array Value), Blk D t g w → o + vs.length ≤ D.size →
    ∃ D', Blk D' t g (w.setCells g o vs) ∧ D'.size = D.size ∧ (∀ j, j < vs.length → D'[o + j]? = vs[j]?) ∧ ∀ k, k < o → D'[k]? = D[k]?
  | [], o, w, D, h, _ => ⟨D, h, rfl, fun j hj => (nomatch hj), fun _ _ => rfl⟩
  | v :: vs, o, w, D, h, ho => by
    have hl : (v :: vs).length = vs.length + 1 := rfl
    obtain ⟨D', h1, h2, h3, h4⟩ := Blk.setCells vs (o + 1) (w.setCell ⟨g, o, none⟩ v) _ (h.set o v) (by rw [Array.size_setIfInBounds]; omega)
    rw [Array.size_setIfInBounds] at h2
    refine ⟨D', h1, h2, fun j hj => ?_, fun k hk => ?_⟩
    · cases j with
      | zero =>
        rw [h4 (o + 0) (by omega), Nat.add_zero, Array.getElem?_setIfInBounds_self_of_lt (by omega)]
        rfl
      | succ j =>
        have := h3 j (by omega)
        rw [show o + 1 + j = o + (j + 1) by omega] at this
        rw [this]
        rfl
    · rw [h4 k (by omega), Array.getElem?_setIfInBounds_ne (by omega)]

/-- A slice that owns its cells, wherever it begins. -/
def RowO (e : TypeId) (z : Nat) (v : Value) (n : Nat) (xs : List Value) (w : World) : Prop :=
  xs.length = n * z ∧ ((v = .slice none 0 0 ∧ n = 0) ∨ ∃ g off cap D, v = .slice (some ⟨g, off, none⟩) n cap ∧ Blk D e g w ∧ n ≤ cap ∧ cap ≤ maxLen ∧ off + cap * z ≤ D.size ∧ ∀ j u, xs[j]? = some u → D[off + j]? = some u)
section
variable {e : TypeId} {z n : Nat} {v : Value} {xs : List Value} {w w' : World}
theorem RowO.nil (e : TypeId) (z : Nat) (w : World) : RowO e z (.slice none 0 0) 0 [] w := ⟨by simp, .inl ⟨rfl, rfl⟩⟩
theorem RowO.fr {F : List Nat} (h : RowO e z v n xs w) (k : Fr F w w') (hF : ∀ g, v.ownBlock = some g → g ∉ F) : RowO e z v n xs w' := by
  refine ⟨h.1, ?_⟩
  rcases h.2 with h | ⟨g, off, cap, D, rfl, hb, h3⟩
  · exact .inl h
  · exact .inr ⟨g, off, cap, D, rfl, k.blk hb (hF g rfl), h3⟩
theorem RowO.on (h : RowO e z v n xs w) (k : Below w.heap.size w w') : RowO e z v n xs w' := h.fr (Fr.of [] k) (fun _ _ hi => by cases hi)
theorem RowO.lt (h : RowO e z v n xs w) {g : Nat} (hg : v.ownBlock = some g) : g < w.heap.size := by
  rcases h.2 with ⟨rfl, _⟩ | ⟨g', off, cap, D, rfl, hb, _⟩
  · cases hg
  · obtain rfl : g' = g := by injection hg
    exact hb.lt
theorem RowO.shape (h : RowO e z v n xs w) : ∃ A c, v = .slice A n c ∧ n ≤ c ∧ c ≤ maxLen ∧ (A = none → n = 0 ∧ c = 0) ∧ ∀ g off, A = some ⟨g, off, none⟩ → v.ownBlock = some g ∧ g < w.heap.size ∧ ∀ j u, xs[j]? = some u → w.cell? ⟨g, off + j, none⟩ = some u := by
  rcases h.2 with ⟨rfl, rfl⟩ | ⟨g, off, cap, D, rfl, hb, h3, h4, h5, h6⟩
  · exact ⟨none, 0, rfl, Nat.le_refl _, by decide, fun _ => ⟨rfl, rfl⟩, fun _ _ h => by cases h⟩
  · refine ⟨some ⟨g, off, none⟩, cap, rfl, h3, h4, fun h => (nomatch h), fun g' off' he => ?_⟩
    cases he
    exact ⟨rfl, hb.lt, fun j u hj => (hb.cell _).trans (h6 j u hj)⟩
theorem RowO.begins (h : RowO e z v n xs w) (hn : 0 < n) : ∃ g off c, v = .slice (some ⟨g, off, none⟩) n c ∧ n ≤ c ∧ c ≤ maxLen ∧ g < w.heap.size ∧ ∀ j u, xs[j]? = some u → w.cell? ⟨g, off + j, none⟩ = some u := by
  rcases h.2 with ⟨rfl, rfl⟩ | ⟨g, off, cap, D, rfl, hb, h3, h4, h5, h6⟩
  · cases hn
  · exact ⟨g, off, cap, rfl, h3, h4, hb.lt, fun j u hj => (hb.cell _).trans (h6 j u hj)⟩
theorem RowO.free {g off c : Nat} (h : RowO e z (.slice (some ⟨g, off, none⟩) n c) n xs w) (k : Nat) : w.frozen? ⟨g, k, none⟩ = false := by
  rcases h.2 with ⟨h, _⟩ | ⟨g', off', cap, D, he, hb, _⟩
  · cases h
  · cases he
    exact hb.free k
theorem RowO.of_own {base : Nat} (h : w.ownsRow base e z v n xs) : RowO e z v n xs w := by
  refine ⟨h.1, ?_⟩
  rcases h.2 with h | ⟨g, cap, cur, rfl, _, hg, h3, h4, h5, h6⟩
  · exact .inl h
  · refine .inr ⟨g, 0, cap, cur, rfl, hg, h3, h4, by omega, fun j u hj => ?_⟩
    rw [Nat.zero_add]
    rw [← h6, List.getElem?_take] at hj
    split at hj
    · rw [← hj, Array.getElem?_toList]
    · cases hj
/-- Without its first one. -/
theorem RowO.tail {g off c : Nat} {ys : List Value} (h : RowO e z (.slice (some ⟨g, off, none⟩) (n + 1) c) (n + 1) (xs ++ ys) w) (hx : xs.length = z) :
    RowO e z (.slice (some (if c = 1 then ⟨g, off, none⟩ else ⟨g, off + 1 * z, none⟩)) n (c - 1)) n ys w := by
  have hl := h.1
  rw [List.length_append, hx, Nat.add_mul, Nat.one_mul] at hl
  refine ⟨by omega, ?_⟩
  rcases h.2 with ⟨h, _⟩ | ⟨g', off', cap, D, he, hb, h3, h4, h5, h6⟩
  · cases h
  · cases he
    by_cases h1 : c = 1
    · subst h1
      obtain rfl : n = 0 := by omega
      have : ys = [] := List.eq_nil_of_length_eq_zero (by simpa using show ys.length = 0 by omega)
      subst this
      rw [if_pos rfl]
      exact .inr ⟨g, off, 0, D, rfl, hb, Nat.le_refl _, by omega, by omega, fun j u hj => by cases hj⟩
    · rw [if_neg h1]
      obtain ⟨c', rfl⟩ : ∃ c', c = c' + 1 := ⟨c - 1, by omega⟩
      refine .inr ⟨g, off + 1 * z, c', D, rfl, hb, by omega, by omega, by rw [Nat.add_mul] at h5; omega, fun j u hj => ?_⟩
      have := h6 (z + j) u (by rw [List.getElem?_append_right (by omega), ← hj]; congr 1; omega)
      rw [← this]
      congr 1
      omega
/-- The first m of it, with another capacity. -/
theorem RowO.init {g off c m c' : Nat} (h : RowO e z (.slice (some ⟨g, off, none⟩) n c) n xs w) (hm : m ≤ n) (hc : c' ≤ c) (hmc : m ≤ c') : RowO e z (.slice (some ⟨g, off, none⟩) m c') m (xs.take (m * z)) w := by
  have hl := h.1
  refine ⟨by rw [List.length_take, hl]; exact Nat.min_eq_left (Nat.mul_le_mul_right _ hm), ?_⟩
  rcases h.2 with ⟨h, _⟩ | ⟨g', off', cap, D, he, hb, h3, h4, h5, h6⟩
  · cases h
  · cases he
    refine .inr ⟨g, off, c', D, rfl, hb, hmc, by omega, Nat.le_trans (Nat.add_le_add_left (Nat.mul_le_mul_right _ hc) _) h5, fun j u hj => h6 j u ?_⟩
    rw [List.getElem?_take] at hj
    split at hj
    · exact hj
    · cases hj
/-- One cell is written over. -/
theorem RowO.set {g off c j : Nat} (h : RowO e z (.slice (some ⟨g, off, none⟩) n c) n xs w) (hj : j < n * z) (u : Value) : RowO e z (.slice (some ⟨g, off, none⟩) n c) n (xs.set j u) (w.setCell ⟨g, off + j, none⟩ u) := by
  refine ⟨by rw [List.length_set]; exact h.1, ?_⟩
  have hl := h.1
  rcases h.2 with ⟨h, _⟩ | ⟨g', off', cap, D, he, hb, h3, h4, h5, h6⟩
  · cases h
  · cases he
    refine .inr ⟨g, off, c, _, rfl, hb.set (off + j) u, h3, h4, by rw [Array.size_setIfInBounds]; exact h5, fun i x hi => ?_⟩
    have hlt : off + j < D.size := Nat.lt_of_lt_of_le (Nat.add_lt_add_left hj _) (Nat.le_trans (Nat.add_le_add_left (Nat.mul_le_mul_right _ h3) _) h5)
    by_cases hij : i = j
    · subst hij
      rw [List.getElem?_set_self (by omega)] at hi
      cases hi
      rw [Array.getElem?_setIfInBounds_self_of_lt hlt]
    · rw [List.getElem?_set_ne (by omega)] at hi
      rw [Array.getElem?_setIfInBounds_ne (by omega)]
      exact h6 i x hi
end
section
variable {P : Program} {o : Oper} {a : Act} {w : World} {K : Act → World → Prop} {Q : Exit → Act → World → Prop}
/-- x[p:], wherever x begins. -/
theorem ex_fromO {t : TypeId} {x lo : Operand} {e : TypeId} {g off n c z : Nat} {p : Nat} (ho : o.op = .slice t x (some lo) none none) (hx : a.eval x = .slice (some ⟨g, off, none⟩) n c) (hl : a.eval lo = .int .i64 (p : Int))
    (hn : p ≤ n) (hc : n ≤ c) (he : P.underlying t = some (.slice e)) (hs : (sizeOf e).run P w = .ok z w) {v : Value} (hv : Value.slice (some (if c = p then ⟨g, off, none⟩ else ⟨g, off + p * z, none⟩)) (n - p) (c - p) = v) :
    (execOp a.eval o).run P w = .ok (.value v) w := by
  subst hv
  have hu : P.underlying t = some (.slice (P.elem t)) := by rw [he]; simp [Program.elem, he]
  have hp : (p : Int) ≤ (n : Int) := by omega
  have hp0 : (0 : Int) ≤ (p : Int) := by omega
  unfold execOp
  simp only [ho, hx, Option.map_some, Option.map_none, hl, Sem.run_bind, run_sliceAt_slice _ _ _ _ _ _ hu, run_slice_any _ _ _ _ _ hu]
  by_cases h : c = p
  · subst h
    simp [Instr.sliceBounds, go_sem, hp, hp0, he, hs, sliced]
  · simp [Instr.sliceBounds, go_sem, hp, hp0, he, hs, sliced, h]
/-- x[:p:q] -/
theorem ex_toMax {t : TypeId} {x hi mx : Operand} {e : TypeId} {A : Option Addr} {n c z : Nat} {p q : Nat} (ho : o.op = .slice t x none (some hi) (some mx)) (hx : a.eval x = .slice A n c) (hl : a.eval hi = .int .i64 (p : Int)) (hm : a.eval mx = .int .i64 (q : Int))
    (hp : p ≤ q) (hq : q ≤ c) (he : P.underlying t = some (.slice e)) (hs : (sizeOf e).run P w = .ok z w) :
    (execOp a.eval o).run P w = .ok (.value (.slice A p q)) w := by
  have hu : P.underlying t = some (.slice (P.elem t)) := by rw [he]; simp [Program.elem, he]
  have h2 : (q : Int) ≤ (c : Int) := by omega
  have hp0 : (0 : Int) ≤ (p : Int) := by omega
  have hq0 : (0 : Int) ≤ (q : Int) := by omega
  unfold execOp
  simp only [ho, hx, Option.map_some, Option.map_none, hl, hm, Sem.run_bind, run_sliceAt_slice _ _ _ _ _ _ hu, run_slice_any _ _ _ _ _ hu]
  simp [Instr.sliceBounds, go_sem, h2, hp0, hq0, he, hs, sliced]
  intro hqp
  omega
/-- An append onto a row that lies somewhere. -/
theorem wp_append_O (s x : Operand) (t : TypeId) (ho : o.op = Op.call { callee := Callee.builtin Builtin.append, args := #[s, x], argTypes := #[t, t] })
    (e : TypeId) (i : TypeInfo) (zv : Value) (size bytes : Nat) (ht : P.underlying t = some (.slice e)) (hi : P.info? e = some i) (hz : i.zero = some zv) (hsize : i.size = size) (hby : i.bytes = bytes) (hzs : zv.cells.size = size) (hsz : 0 < size)
    (v : Value) (n : Nat) (xs : List Value) (hs : a.eval s = v) (hown : RowO e size v n xs w)
    (ad : Addr) (m c : Nat) (news : List Value) (hx : a.eval x = .slice (some ad) m c) (hl : news.length = m * size) (hnews : ∀ j u, news[j]? = some u → w.cell? (ad.add j) = some u) (h1 : ∀ u ∈ news, u.oneCell' = true)
    (hm : 0 < m) (h63 : n + m ≤ maxLen) (hbytes : (n + m) * bytes ≤ 140737488355328)
    (h : ∀ v' w', RowO e size v' (n + m) (xs ++ news) w' → w.grownBy w' v.ownBlock → (v'.ownBlock = v.ownBlock ∨ ∃ g, v'.ownBlock = some g ∧ w.heap.size ≤ g) → K (a.put o.dst v') w') : o.wp P a w K Q := by
  have main : ∃ v' w', (Builtin.append_ #[t, t] o.type #[v, .slice (some ad) m c]).run P w = .ok v' w' ∧ RowO e size v' (n + m) (xs ++ news) w' ∧ w.grownBy w' v.ownBlock ∧ (v'.ownBlock = v.ownBlock ∨ ∃ g, v'.ownBlock = some g ∧ w.heap.size ≤ g) := by
    have own_new : ∀ (v' : Value) (w' : World) (ys : List Value), w'.ownsRow w.heap.size e size v' (n + m) ys → ∃ g, v'.ownBlock = some g ∧ w.heap.size ≤ g := fun v' w' ys hw => by
      rcases hw.2 with ⟨_, h0⟩ | ⟨g, cap, cur, rfl, hg, _⟩
      · omega
      · exact ⟨g, rfl, hg⟩
    rcases hown.2 with ⟨rfl, rfl⟩ | ⟨g, off, cap, D, rfl, hb, h3, h4, h5, h6⟩
    · obtain rfl : xs = [] := List.eq_nil_of_length_eq_zero (by simpa using hown.1)
      obtain ⟨v', w', hrun, r1, r2, _⟩ := run_append_own (P := P) w w.heap.size t o.type e i zv size bytes ht hi hz hsize hby hzs hsz (.slice none 0 0) 0 [] (World.ownsRow_nil w _ e size) ad m c news hl hnews h1 h63 hbytes (Nat.le_refl _)
      exact ⟨v', w', hrun, RowO.of_own r1, r2, .inr (own_new _ _ _ r1)⟩
    · have hxl := hown.1
      by_cases hr : n + m ≤ cap
      · subst hsize
        have hle : off + n * i.size + news.length ≤ D.size := by
          rw [hl]
          have := Nat.mul_le_mul_right i.size hr
          rw [Nat.add_mul] at this
          omega
        have hrun := run_append_room_cells (P := P) w t o.type e i ht hi g off n cap ad m c news hl hnews h1 hr (fun j hj => by rw [hb.cell, Array.getElem?_eq_getElem (by omega)]; rfl) (fun j hj => hb.free _)
        obtain ⟨D', d1, d2, d3, d4⟩ := Blk.setCells news (off + n * i.size) w D hb hle
        refine ⟨_, _, hrun, ⟨by rw [List.length_append, hxl, hl, Nat.add_mul], .inr ⟨g, off, cap, D', rfl, d1, hr, h4, by rw [d2]; exact h5, fun j u hj => ?_⟩⟩, grown_setCells g news _ w, .inl rfl⟩
        by_cases hjx : j < xs.length
        · rw [List.getElem?_append_left hjx] at hj
          rw [d4 _ (by omega)]
          exact h6 j u hj
        · rw [List.getElem?_append_right (by omega)] at hj
          have hlt := (List.getElem?_eq_some_iff.1 hj).1
          have := d3 (j - xs.length) hlt
          rw [show off + n * i.size + (j - xs.length) = off + j by omega] at this
          rw [this]
          exact hj
      · obtain ⟨v', w', hrun, r1, r2⟩ := run_append_arg_grows (P := P) w t o.type e i zv size bytes ht hi hz hsize hby hzs hsz ⟨g, off, none⟩ n cap xs hxl (fun j u hj => by rw [Addr.add_lit, hb.cell]; exact h6 j u hj) ad m c news hl hnews (by omega) h63 hbytes
        exact ⟨v', w', hrun, RowO.of_own r1, ⟨r2.os, r2.tape, r2.output, r2.size, fun k hk _ => r2.block k hk (by simp)⟩, .inr (own_new _ _ _ r1)⟩
  obtain ⟨v', w', hrun, r1, r2, r3⟩ := main
  unfold Oper.wp execOp
  simp only [ho, resolve, invoke, builtin, Sem.run_bind, Sem.run_pure, Result.andThen_ok, List.map_toArray, List.map_cons, List.map_nil, hs, hx, hrun]
  exact h v' w' r1 r2 r3
/-- An element of an array that is a value, by its number. -/
theorem ex_indexV {t : TypeId} {x ix : Operand} {cs : Array Value} {k : Int} {v : Value} (ho : o.op = .index t x ix) (hx : a.eval x = .agg cs) (hi : a.eval ix = .int .i64 k) (h : (Instr.index t (.agg cs) (.int .i64 k)).run P w = .ok v w) :
    (execOp a.eval o).run P w = .ok (.value v) w := by
  unfold execOp
  simp only [ho, hx, hi, Sem.run_bind, Sem.run_pure, Result.andThen_ok, h]
end
end Go.Proofs.Ytoahejjeihmiiaa
