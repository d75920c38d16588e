/- SbufFinds, plain: what is put and not drained, block by block, is what the buffer has; what is found of it. -/
import Derived.Test.YthifeaolodmhhaaVy
set_option maxRecDepth 100000
set_option linter.unusedVariables false
namespace Go.Proofs.Ythifeaolodmhhaa
open Go.RowKit

def eqW (o y : Wr) : Bool := decide (y.id = o.id) && (decide (y.addr = o.addr) && (decide (y.size = o.size) && decide (y.data = o.data)))
theorem eqW_iff {o y : Wr} : eqW o y = true ↔ y = o := by
  obtain ⟨a, b, c, d⟩ := o
  obtain ⟨a', b', c', d'⟩ := y
  simp [eqW]
def mB (o y : Wr) : Bool := eqW o (low y)
theorem mB_map (o : Wr) (l : List Wr) : (l.eraseP (mB o)).map low = (l.map low).eraseP (eqW o) := by
  rw [List.eraseP_map]
  rfl
theorem fb_cons (β : Int) (x : Wr) (l : List Wr) : fb β (x :: l) = if bkN x = β then x :: fb β l else fb β l := by
  unfold fb
  rw [List.filter_cons]
  by_cases h : bkN x = β <;> simp [h]
theorem fb_erase (o : Wr) (β : Int) (l : List Wr) : fb β (l.eraseP (eqW o)) = if bkN o = β then (fb β l).eraseP (eqW o) else fb β l := by
  induction l with
  | nil => simp [fb]
  | cons x l ih =>
    by_cases hx : eqW o x = true
    · rw [List.eraseP_cons_of_pos hx, fb_cons]
      have e := eqW_iff.1 hx
      subst e
      by_cases hβ : bkN x = β
      · rw [if_pos hβ, if_pos hβ, List.eraseP_cons_of_pos hx]
      · rw [if_neg hβ, if_neg hβ]
    · rw [List.eraseP_cons_of_neg hx, fb_cons, fb_cons, ih]
      by_cases hβ : bkN o = β
      · rw [if_pos hβ, if_pos hβ]
        by_cases hb : bkN x = β
        · rw [if_pos hb, if_pos hb, List.eraseP_cons_of_neg hx]
        · rw [if_neg hb, if_neg hb]
      · rw [if_neg hβ, if_neg hβ]
/-- What was put and not drained (with its whole data), and what the buffer has. -/
structure FI (s : Bst) (l : List Wr) (rest : List Wr) : Prop where
  ok : BsOk s
  may : ∀ x ∈ l, mayW x = true ∧ 0 ≤ x.data ∧ x.data < 2 ^ 64
  same : ∀ β, fb β (l.map low) = fb β (rest ++ flatE s.es)
theorem FI.start : FI ⟨[], 0⟩ [] [] := ⟨BsOk.zero, by simp, fun β => by simp [flatE]⟩
theorem FI.put {s : Bst} {l : List Wr} (h : FI s l []) (x : Wr) (h0 : 0 ≤ x.data) (h1 : x.data < 2 ^ 64) : FI (putB s x) (if (placeN s x).2 = true then l ++ [x] else l) [] := by
  by_cases hp : (placeN s x).2 = true
  · rw [if_pos hp]
    refine ⟨h.ok.put x h0 h1, fun y hy => ?_, fun β => ?_⟩
    · rcases List.mem_append.1 hy with hy | hy
      · exact h.may y hy
      · simp at hy; subst hy; exact ⟨(placeN_yes hp).1, h0, h1⟩
    · rw [List.map_append, fb_append, h.same, List.nil_append, List.nil_append, put_fb h.ok hp]
      rfl
  · rw [if_neg hp]
    have : putB s x = s := by unfold putB; rw [if_neg hp]
    rw [this]
    exact h
theorem FI.bar {s : Bst} {l : List Wr} (h : FI s l []) : FI (barB s) l [] := ⟨h.ok.bar, h.may, fun β => by rw [h.same, (barB_ep s).2]⟩
theorem FI.dra {s : Bst} {l : List Wr} (h : FI s l []) (q : Int) : FI (draB s q) l (outB s q) := by
  refine ⟨h.ok.dra q, h.may, fun β => ?_⟩
  rw [h.same, List.nil_append, fb_append]
  by_cases hg : mayGo s q = true
  · exact dra_fb h.ok hg β
  · unfold outB draB
    rw [if_neg hg, if_neg hg]
    simp [fb]
theorem FI.take {s : Bst} {l r : List Wr} {o : Wr} (h : FI s l (o :: r)) : l.any (mB o) = true ∧ FI s (l.eraseP (mB o)) r := by
  have h1 := h.same (bkN o)
  rw [List.cons_append, fb_cons, if_pos rfl] at h1
  refine ⟨?_, h.ok, fun x hx => h.may x (List.mem_of_mem_eraseP hx), fun β => ?_⟩
  · have hm : o ∈ fb (bkN o) (l.map low) := by rw [h1]; simp
    unfold fb at hm
    obtain ⟨y, hy, e⟩ := List.mem_map.1 (List.mem_filter.1 hm).1
    exact List.any_eq_true.2 ⟨y, hy, by unfold mB; rw [e]; exact eqW_iff.2 rfl⟩
  · rw [mB_map, fb_erase, h.same, List.cons_append, fb_cons]
    by_cases hβ : bkN o = β
    · rw [if_pos hβ, if_pos hβ, List.eraseP_cons_of_pos (eqW_iff.2 rfl)]
    · rw [if_neg hβ, if_neg hβ]
/-- A list without the first one of which something is so, while it is read. -/
theorem left_step {p : Wr → Bool} {l : List Wr} {j : Nat} (hj : j < l.length) :
    ((l.take j).any p = false ∧ p l[j] = true → (l.take (j + 1)).eraseP p = (l.take j).eraseP p ∧ (l.take (j + 1)).any p = true) ∧
    (¬ ((l.take j).any p = false ∧ p l[j] = true) → (l.take (j + 1)).eraseP p = (l.take j).eraseP p ++ [l[j]] ∧ (l.take (j + 1)).any p = (l.take j).any p) := by
  rw [List.take_succ_eq_append_getElem hj, List.any_append]
  refine ⟨fun ⟨h1, h2⟩ => ?_, fun h => ?_⟩
  · have hn : ∀ b ∈ l.take j, ¬ p b = true := fun b hb hp => by
      rw [List.any_eq_false] at h1
      exact h1 b hb hp
    rw [List.eraseP_append_right _ hn, List.eraseP_of_forall_not hn, List.eraseP_cons_of_pos h2]
    simp [h1, h2]
  · cases ha : (l.take j).any p with
    | true =>
      obtain ⟨b, hb, hp⟩ := List.any_eq_true.1 ha
      rw [List.eraseP_append_left hp _ hb]
      simp
    | false =>
      have hp : p l[j] = false := by
        cases hq : p l[j] with
        | false => rfl
        | true => exact absurd ⟨ha, hq⟩ h
      have hn : ∀ b ∈ l.take j, ¬ p b = true := fun b hb hp => by
        rw [List.any_eq_false] at ha
        exact ha b hb hp
      rw [List.eraseP_append_right _ hn, List.eraseP_of_forall_not hn, List.eraseP_cons_of_neg (by rw [hp]; decide)]
      simp [hp]

/-! ### What is found -/
def lstep (q : Int) (p : Int × Int × Bool) (x : Wr) : Int × Int × Bool := if hasAt q x = true then (byteAt x.data (q - x.addr).toNat, x.id, true) else p
def lastF (q : Int) (l : List Wr) : Int × Int × Bool := l.foldl (lstep q) (0, 0, false)
theorem lastF_take (q : Int) (l : List Wr) (k : Nat) (h : k < l.length) : lastF q (l.take (k + 1)) = lstep q (lastF q (l.take k)) l[k] := by
  unfold lastF
  rw [List.take_succ_eq_append_getElem h, List.foldl_append]
  rfl
theorem lastF_find (q : Int) (l : List Wr) : lastF q l = match l.reverse.find? (hasAt q) with
    | none => (0, 0, false)
    | some x => (byteAt x.data (q - x.addr).toNat, x.id, true) := by
  unfold lastF
  rw [← List.foldr_reverse]
  generalize l.reverse = m
  induction m with
  | nil => rfl
  | cons x m ih =>
    rw [List.foldr_cons, List.find?_cons, ih]
    unfold lstep
    cases h : hasAt q x with
    | true => simp
    | false => simp
theorem hasAt_low (q : Int) (x : Wr) : hasAt q (low x) = hasAt q x := rfl
theorem fb_hasAt {l : List Wr} (hm : ∀ x ∈ l, mayW x = true) (q : Int) : (fb (q / 8) l).filter (hasAt q) = l.filter (hasAt q) := by
  unfold fb
  rw [List.filter_filter]
  refine List.filter_congr fun x hx => ?_
  cases hh : hasAt q x with
  | false => rfl
  | true =>
    unfold hasAt at hh
    simp only [Bool.and_eq_true, decide_eq_true_eq] at hh
    rw [has_block (hm x hx) hh.1 hh.2]
    simp
theorem find_filter (f : Wr → Bool) (l : List Wr) : l.reverse.find? f = (l.filter f).reverse.head? := by
  rw [← List.filter_reverse, List.head?_filter]
theorem flat_may {s : Bst} (h : BsOk s) : ∀ x ∈ flatE s.es, mayW x = true := by
  intro x hx
  unfold flatE at hx
  obtain ⟨e, he, hx⟩ := List.mem_flatMap.1 hx
  exact (h.st e he x hx).may
theorem FI.find {s : Bst} {l : List Wr} (h : FI s l []) (q : Int) : findB s q = lastF q l := by
  have e1 : (flatE s.es).reverse.find? (hasAt q) = (l.map low).reverse.find? (hasAt q) := by
    rw [find_filter, find_filter, ← fb_hasAt (flat_may h.ok), ← fb_hasAt (l := l.map low) (fun x hx => by
      obtain ⟨y, hy, rfl⟩ := List.mem_map.1 hx
      rw [mayW_low]; exact (h.may y hy).1), h.same, List.nil_append]
  have e2 : (l.map low).reverse.find? (hasAt q) = (l.reverse.find? (hasAt q)).map low := by
    rw [← List.map_reverse, List.find?_map]
    rfl
  have e3 := seekN_flat (hasAt q) s.es
  rw [e1, e2] at e3
  rw [lastF_find]
  unfold findB
  cases hs : seekN (hasAt q) s.es with
  | none =>
    rw [hs] at e3
    cases hl : l.reverse.find? (hasAt q) with
    | none => rfl
    | some x => rw [hl] at e3; cases e3
  | some k =>
    rw [hs] at e3
    cases hl : l.reverse.find? (hasAt q) with
    | none => rw [hl] at e3; cases e3
    | some x =>
      rw [hl] at e3
      have e4 : k.2 = low x := by simpa using e3
      have hx : hasAt q x = true := List.find?_some hl
      unfold hasAt at hx
      simp only [Bool.and_eq_true, decide_eq_true_eq] at hx
      show (byteAt k.2.data (q - k.2.addr).toNat, k.2.id, true) = (byteAt x.data (q - x.addr).toNat, x.id, true)
      rw [e4, show (low x).addr = x.addr from rfl, show (low x).id = x.id from rfl, byteAt_low x (by omega)]
end Go.Proofs.Ythifeaolodmhhaa
