/- What comes in: deeds, bytes, numbers; what is claimed and undone, plain. -/
import Derived.Test.YtoahejjeihmiiaaNk
set_option maxRecDepth 100000
set_option linter.unusedVariables false
namespace Go.Proofs.Ytoahejjeihmiiaa
open Go.RowKit

/-! ### What comes in -/
structure Nac where
  kind : Int
  n : Int
  v : Int
def nacCells (x : Nac) : Array Value := #[.int .i64 x.kind, .int .i64 x.n, .int .u64 x.v]
def cellsNac (l : List Nac) : List Value := l.flatMap fun x => (nacCells x).toList
structure Wnac (x : Nac) : Prop where
  kind : (Lit.int .i64 x.kind).wf = true
  n : (Lit.int .i64 x.n).wf = true
  v : (Lit.int .u64 x.v).wf = true
def Wnacs (l : List Nac) : Prop := ∀ k ∈ l, Wnac k
theorem rd_nac {w : World} {B : Nat} {A : Option Addr} {l : List Nac} (h : Rd w B A (cellsNac l)) {k : Nat} (hk : k < l.length) : ∃ b off, A = some ⟨b, off, none⟩ ∧ b < B ∧ ∀ j v, (nacCells l[k]).toList[j]? = some v → w.cell? ⟨b, off + k * 3 + j, none⟩ = some v := by
  have hz : ∀ x : Nac, (nacCells x).toList.length = 3 := fun _ => rfl
  rcases h with h0 | ⟨b, off, rfl, hb, hc⟩
  · have := flat_len (fun x : Nac => (nacCells x).toList) 3 hz l
    rw [show l.flatMap (fun x : Nac => (nacCells x).toList) = [] from h0] at this
    simp at this
    omega
  · refine ⟨b, off, rfl, hb, fun j v hv => ?_⟩
    have hj : j < 3 := by have := (List.getElem?_eq_some_iff.1 hv).1; rwa [hz] at this
    have e := flat_at (fun x : Nac => (nacCells x).toList) 3 hz l k j hj
    rw [List.getElem?_eq_getElem hk] at e
    have := hc (k * 3 + j) v (e.trans hv)
    rw [← Nat.add_assoc] at this
    exact this
theorem rd_map {w : World} {B : Nat} {A : Option Addr} {f : Int → Value} {l : List Int} (h : Rd w B A (l.map f)) {k : Nat} (hk : k < l.length) : ∃ b off, A = some ⟨b, off, none⟩ ∧ b < B ∧ w.cell? ⟨b, off + k, none⟩ = some (f l[k]) := by
  rcases h with h0 | ⟨b, off, rfl, hb, hc⟩
  · rw [List.map_eq_nil_iff.1 h0] at hk
    cases hk
  · exact ⟨b, off, rfl, hb, hc k _ (by rw [List.getElem?_map, List.getElem?_eq_getElem hk]; rfl)⟩
theorem three_at {x : World} {b off : Nat} {y : Nac} (h : ∀ j v, (nacCells y).toList[j]? = some v → x.cell? ⟨b, off + j, none⟩ = some v) : ∀ j v, [Value.int .i64 y.kind, .int .i64 y.n, .int .u64 y.v][j]? = some v → x.cell? ⟨b, off + j, none⟩ = some v := h
theorem mod32 {z : Int} (h0 : 0 ≤ z) (h1 : z ≤ 255) : z.tmod 32 = z % 32 ∧ 0 ≤ z % 32 ∧ z % 32 < 32 := by
  rw [Int.tmod_eq_emod_of_nonneg h0]
  omega

/-! ### A claim -/
theorem cla_small {s : Nst} (hl : s.l.length < 12) (r : Int) : (0 < r ∧ r < 32 ∧ ∃ c, freN s = some c ∧ claN s r = (addN s r.toNat c, (c : Int), true)) ∨ (¬ (0 < r ∧ r < 32) ∧ claN s r = (s, 0, false)) := by
  by_cases hr : 0 < r ∧ r < 32
  · obtain ⟨c, hc⟩ := fre_ex hl
    exact .inl ⟨hr.1, hr.2, c, hc, by unfold claN; rw [if_pos hr, hc]⟩
  · exact .inr ⟨hr, by unfold claN; rw [if_neg hr]⟩
/-- What has j claims more than s. -/
def Grown (s t : Nst) (j : Nat) : Prop := t.s = s.s ∧ ∃ e, t.l = s.l ++ e ∧ e.length = j
theorem Grown.refl (s : Nst) : Grown s s 0 := ⟨rfl, [], by simp, rfl⟩
theorem Grown.add {s t : Nst} {j : Nat} (h : Grown s t j) (r c : Nat) : Grown s (addN t r c) (j + 1) := by
  obtain ⟨h1, e, h2, h3⟩ := h
  exact ⟨h1, e ++ [(r, c)], by show t.l ++ [(r, c)] = _; rw [h2, List.append_assoc], by rw [List.length_append, h3]; rfl⟩
theorem Grown.und {s t : Nst} {j : Nat} (h : Grown s t (j + 1)) : undOk t = true ∧ Grown s (undN t) j := by
  obtain ⟨h1, e, h2, h3⟩ := h
  have he : e ≠ [] := by intro e0; rw [e0] at h3; cases h3
  obtain ⟨m, k, rfl⟩ := snoc_of he
  have ht : t.l = (s.l ++ m) ++ [k] := by rw [h2, List.append_assoc]
  refine ⟨by unfold undOk; rw [ht]; simp, ?_⟩
  rw [undN_snoc ht]
  refine ⟨h1, m, rfl, ?_⟩
  rw [List.length_append] at h3
  exact Nat.succ.inj h3
theorem Grown.look {s t : Nst} (h : Grown s t 0) (r : Int) : lookN t r = lookN s r := by
  obtain ⟨h1, e, h2, h3⟩ := h
  obtain rfl := List.eq_nil_of_length_eq_zero h3
  rw [List.append_nil] at h2
  unfold lookN lkN
  rw [h1, h2]
/-- An array of 32 numbers of registers' cells. -/
def iCells (f : Nat → Int) : Array Value := rowK 32 fun k => .int .i64 (f k)
theorem iCells_at (x : Nat → Int) {k : Nat} (h : k < 32) : (iCells x)[k]? = some (.int .i64 (x k)) := rowK_at _ h
theorem iCells_set (x : Nat → Int) {k : Nat} (h : k < 32) (v : Int) : (iCells x).setIfInBounds k (.int .i64 v) = iCells (updN x k v) := by
  refine rowK_set h ?_ fun i hi hne => ?_
  · show Value.int .i64 (updN x k v k) = _
    rw [updN_same]
  · show Value.int .i64 (updN x k v i) = _
    rw [updN_other _ _ _ hne]
def wasK (s : Nst) (k : Nat) : Nat → Int := fun r => if r < k then lookN s (r : Int) else 0
theorem wasK_next (s : Nst) (k : Nat) : updN (wasK s k) k (lookN s (k : Int)) = wasK s (k + 1) := by
  funext j
  unfold updN wasK
  by_cases h : j = k
  · simp [h]
  · by_cases h2 : j < k
    · simp [h, h2, show j < k + 1 by omega]
    · simp [h, h2, show ¬ j < k + 1 by omega]
theorem zero_ints (w : World) (s : Nst) : Blk (iCells (wasK s 0)) 49 w.heap.size (w.alloc (.cells #[.int .i64 0, .int .i64 0, .int .i64 0, .int .i64 0, .int .i64 0, .int .i64 0, .int .i64 0, .int .i64 0, .int .i64 0, .int .i64 0, .int .i64 0, .int .i64 0, .int .i64 0, .int .i64 0, .int .i64 0, .int .i64 0, .int .i64 0, .int .i64 0, .int .i64 0, .int .i64 0, .int .i64 0, .int .i64 0, .int .i64 0, .int .i64 0, .int .i64 0, .int .i64 0, .int .i64 0, .int .i64 0, .int .i64 0, .int .i64 0, .int .i64 0, .int .i64 0] 49)) := Blk.new _ _ _
end Go.Proofs.Ytoahejjeihmiiaa
