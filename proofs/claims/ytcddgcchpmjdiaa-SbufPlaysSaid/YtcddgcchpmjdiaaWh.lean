/- What the document's buffer answers, of the entries. -/
import Derived.Test.YtcddgcchpmjdiaaWg
import Derived.Test.YtcddgcchpmjdiaaVh
import Derived.Test.YtcddgcchpmjdiaaVg
set_option maxRecDepth 100000
set_option linter.unusedVariables false
namespace Go.Proofs.Ytcddgcchpmjdiaa
open Go.RowKit

theorem TI.none {s : Bst} {D : Dbf} (h : TI s D) (hok : BsOk s) : D.l.length = 0 ↔ s.es.length = 0 := by
  constructor
  · intro e
    have : keysL D.l = [] := by rw [List.eq_nil_of_length_eq_zero e]; rfl
    rw [← h.len, this]; rfl
  · intro e
    rcases hl : D.l with _ | ⟨x, r⟩
    · rfl
    · obtain ⟨k, hk, _⟩ := (h.mem x).1 (by rw [hl]; exact List.mem_cons_self)
      omega
theorem TI.elder {s : Bst} {D : Dbf} (h : TI s D) (hok : BsOk s) : eldB s = true ↔ ∃ x ∈ D.l, x.2 < D.ep := by
  unfold eldB
  simp only [Bool.and_eq_true, decide_eq_true_eq]
  constructor
  · rintro ⟨h0, h1⟩
    rw [getD_ent h0] at h1
    obtain ⟨y, hy⟩ := List.exists_mem_of_length_pos (hok.some _ (List.getElem_mem h0)).1
    exact ⟨(y, s.es[0].ep), (h.mem _).2 ⟨0, h0, hy, rfl⟩, by rw [h.ep]; exact h1⟩
  · rintro ⟨x, hx, hlt⟩
    obtain ⟨k, hk, _, e⟩ := (h.mem x).1 hx
    have h0 : 0 < s.es.length := by omega
    refine ⟨h0, ?_⟩
    rw [getD_ent h0]
    rw [e, h.ep] at hlt
    by_cases hk0 : k = 0
    · subst hk0; exact hlt
    · have := (pair_get hok (show 0 < k by omega) hk).1; omega
theorem TI.last {s : Bst} {D : Dbf} (h : TI s D) (hok : BsOk s) : (0 < s.es.length ∧ (s.es.getD (s.es.length - 1) ent0).ep = s.ep) ↔ ∃ x ∈ D.l, x.2 = D.ep := by
  constructor
  · rintro ⟨h0, h1⟩
    have hl : s.es.length - 1 < s.es.length := by omega
    rw [getD_ent hl] at h1
    obtain ⟨y, hy⟩ := List.exists_mem_of_length_pos (hok.some _ (List.getElem_mem hl)).1
    exact ⟨(y, s.es[s.es.length - 1].ep), (h.mem _).2 ⟨_, hl, hy, rfl⟩, by rw [h.ep]; exact h1⟩
  · rintro ⟨x, hx, he⟩
    obtain ⟨k, hk, _, e⟩ := (h.mem x).1 hx
    have h0 : 0 < s.es.length := by omega
    have hl : s.es.length - 1 < s.es.length := by omega
    refine ⟨h0, ?_⟩
    rw [getD_ent hl]
    have hle := (hok.ep _ (List.getElem_mem hl)).2
    rw [e, h.ep] at he
    by_cases hk0 : k = s.es.length - 1
    · subst hk0; exact he
    · have := (pair_get hok (show k < s.es.length - 1 by omega) hl).1; omega
theorem TI.barNo {s : Bst} {D : Dbf} (h : TI s D) (hok : BsOk s) (hn : ∀ x ∈ D.l, x.2 ≠ D.ep) : TI (barB s) ⟨D.l, D.ep⟩ := by
  refine h.bar ?_
  unfold barB
  rw [if_neg (fun a => by obtain ⟨x, hx, e⟩ := (h.last hok).1 a; exact hn x hx e)]
  exact h.ep
theorem TI.barYes {s : Bst} {D : Dbf} (h : TI s D) (hok : BsOk s) (hn : ∃ x ∈ D.l, x.2 = D.ep) : TI (barB s) ⟨D.l, D.ep + 1⟩ := by
  refine h.bar ?_
  unfold barB
  rw [if_pos ((h.last hok).2 hn)]
  show D.ep + 1 = s.ep + 1
  rw [h.ep]
theorem mem_flatE {es : List Ent} {y : Wr} : y ∈ flatE es ↔ ∃ k, ∃ hk : k < es.length, y ∈ es[k].st := by
  unfold flatE
  rw [List.mem_flatMap]
  constructor
  · rintro ⟨e, he, hy⟩
    obtain ⟨k, hk, rfl⟩ := List.getElem_of_mem he
    exact ⟨k, hk, hy⟩
  · rintro ⟨k, hk, hy⟩
    exact ⟨es[k], List.getElem_mem hk, hy⟩
theorem TI.over {s : Bst} {D : Dbf} (h : TI s D) (hok : BsOk s) (a z : Int) : ovB s a z = true ↔ ∃ x ∈ D.l, ovl x.1.addr x.1.size a z = true := by
  unfold ovB
  have e : (seekN (ovAt a z) s.es).isSome = ((seekN (ovAt a z) s.es).map Prod.snd).isSome := by simp
  rw [e, seekN_flat, List.find?_isSome]
  constructor
  · rintro ⟨y, hy, ho⟩
    rw [List.mem_reverse, mem_flatE] at hy
    obtain ⟨k, hk, hy⟩ := hy
    exact ⟨(y, s.es[k].ep), (h.mem _).2 ⟨k, hk, hy, rfl⟩, ho⟩
  · rintro ⟨x, hx, ho⟩
    obtain ⟨k, hk, hy, _⟩ := (h.mem x).1 hx
    exact ⟨x.1, by rw [List.mem_reverse, mem_flatE]; exact ⟨k, hk, hy⟩, ho⟩
theorem find_fb {f : Wr → Bool} {β : Int} : ∀ l : List Wr, (∀ y ∈ l, f y = true → bkN y = β) → l.find? f = (fb β l).find? f
  | [], _ => rfl
  | y :: r, h => by
    have ih := find_fb (f := f) (β := β) r (fun z hz => h z (List.mem_cons_of_mem _ hz))
    unfold fb at ih ⊢
    by_cases hb : bkN y = β
    · rw [List.filter_cons_of_pos (by simpa using hb), List.find?_cons, List.find?_cons, ih]
    · have hf : f y = false := by
        cases hq : f y with
        | false => rfl
        | true => exact absurd (h y List.mem_cons_self hq) hb
      rw [List.filter_cons_of_neg (by simpa using hb), List.find?_cons, hf]
      exact ih
theorem has_block {y : Wr} (hy : StOk y) {q : Int} (h : hasAt q y = true) : bkN y = q / 8 := by
  obtain ⟨_, hz, h0, hm, _⟩ := mayW_out hy.may
  unfold hasAt at h
  simp only [Bool.and_eq_true, decide_eq_true_eq] at h
  unfold bkN
  rcases hz with hz | hz | hz | hz <;> rw [hz] at h hm <;> omega
theorem TI.find {s : Bst} {D : Dbf} (h : TI s D) (hok : BsOk s) (q : Int) : (D.l.map Prod.fst).reverse.find? (hasAt q) = (seekN (hasAt q) s.es).map Prod.snd := by
  rw [seekN_flat, find_fb (β := q / 8) (D.l.map Prod.fst).reverse, find_fb (β := q / 8) (flatE s.es).reverse]
  · have e1 : fb (q / 8) (D.l.map Prod.fst).reverse = (fb (q / 8) (D.l.map Prod.fst)).reverse := by unfold fb; rw [List.filter_reverse]
    have e2 : fb (q / 8) (flatE s.es).reverse = (fb (q / 8) (flatE s.es)).reverse := by unfold fb; rw [List.filter_reverse]
    rw [e1, e2, h.blk]
  · intro y hy hf
    rw [List.mem_reverse, mem_flatE] at hy
    obtain ⟨k, hk, hy⟩ := hy
    exact has_block (hok.st _ (List.getElem_mem hk) y hy) hf
  · intro y hy hf
    rw [List.mem_reverse, List.mem_map] at hy
    obtain ⟨x, hx, rfl⟩ := hy
    exact has_block (h.ok hok hx).1 hf
theorem rev_hit {f : Wr → Bool} {l : List Wr} {i : Nat} (hi : i < l.length) (h : f l[i] = true) (hn : ∀ j (hj : j < l.length), i < j → f l[j] = false) : l.reverse.find? f = some l[i] := by
  have e : l = l.take i ++ (l[i] :: l.drop (i + 1)) := by rw [← List.drop_eq_getElem_cons hi, List.take_append_drop]
  have h0 : (l.drop (i + 1)).reverse.find? f = none := by
    rw [List.find?_eq_none]
    intro y hy
    obtain ⟨j, hj, rfl⟩ := List.getElem_of_mem (List.mem_reverse.1 hy)
    rw [List.length_drop] at hj
    rw [List.getElem_drop, hn (i + 1 + j) (by omega) (by omega)]
    decide
  generalize hc : l[i] = c at *
  conv => lhs; rw [e]
  rw [List.reverse_append, List.reverse_cons, List.append_assoc, List.find?_append, h0]
  simp [h]
theorem rev_none {f : Wr → Bool} {l : List Wr} (hn : ∀ j (hj : j < l.length), f l[j] = false) : l.reverse.find? f = none := by
  rw [List.find?_eq_none]
  intro y hy
  obtain ⟨j, hj, rfl⟩ := List.getElem_of_mem (List.mem_reverse.1 hy)
  rw [hn j hj]
  decide
theorem TI.findHit {s : Bst} {D : Dbf} (h : TI s D) (hok : BsOk s) {q : Int} {i : Nat} (hi : i < D.l.length) (hf : hasAt q D.l[i].1 = true) (hn : ∀ j (hj : j < D.l.length), i < j → hasAt q D.l[j].1 = false) :
    findB s q = (byteAt D.l[i].1.data (q - D.l[i].1.addr).toNat, D.l[i].1.id, true) := by
  have e := h.find hok q
  rw [rev_hit (l := D.l.map Prod.fst) (i := i) (by simpa using hi) (by simpa using hf) (fun j hj hij => by simpa using hn j (by simpa using hj) hij)] at e
  unfold findB
  cases hq : seekN (hasAt q) s.es with
  | none => rw [hq] at e; cases e
  | some y =>
    rw [hq] at e
    simp only [List.getElem_map, Option.map_some, Option.some.injEq] at e
    rw [e]
theorem TI.findNo {s : Bst} {D : Dbf} (h : TI s D) (hok : BsOk s) {q : Int} (hn : ∀ j (hj : j < D.l.length), hasAt q D.l[j].1 = false) : findB s q = (0, 0, false) := by
  have e := h.find hok q
  rw [rev_none (l := D.l.map Prod.fst) (fun j hj => by simpa using hn j (by simpa using hj))] at e
  unfold findB
  cases hq : seekN (hasAt q) s.es with
  | none => rfl
  | some y => rw [hq] at e; cases e
theorem ready_least {s : Bst} (hok : BsOk s) {i : Nat} (hi : i < s.es.length) : rdyP s i = true ↔ ∀ k (hk : k < s.es.length), s.es[i].ep ≤ s.es[k].ep := by
  have h0 : 0 < s.es.length := by omega
  unfold rdyP
  rw [decide_eq_true_eq, getD_ent hi, getD_ent h0]
  constructor
  · intro e k hk
    rw [e]
    by_cases hk0 : k = 0
    · subst hk0; exact Int.le_refl _
    · exact (pair_get hok (show 0 < k by omega) hk).1
  · intro h
    have h1 := h 0 h0
    by_cases hi0 : i = 0
    · subst hi0; rfl
    · have := (pair_get hok (show 0 < i by omega) hi).1; omega
theorem mem_ready {s : Bst} {q : Int} : q ∈ rdyI s s.es.length ↔ mayGo s q = true := by
  unfold rdyI rdyK mayGo
  simp only [List.mem_map, List.mem_filter, List.mem_range, Bool.and_eq_true, decide_eq_true_eq]
  constructor
  · rintro ⟨i, ⟨hi, hr⟩, rfl⟩
    unfold rdyP at hr
    exact ⟨by omega, by rw [Int.toNat_natCast]; exact of_decide_eq_true hr⟩
  · rintro ⟨h1, h2⟩
    exact ⟨q.toNat, ⟨by omega, by unfold rdyP; exact decide_eq_true h2⟩, by omega⟩
def hdE (e : Ent) : Wr := e.st.getD 0 wr0
theorem hdE_mem {e : Ent} (h : 0 < e.st.length) : hdE e ∈ e.st := by
  unfold hdE
  rw [List.getD_eq_getElem?_getD, List.getElem?_eq_getElem h]
  exact List.getElem_mem h
/-- Is a store of the entry? -/
def togE (s : Bst) (x : Wr) (e : Ent) : Bool := decide (e.ep = s.ep ∧ bkN (hdE e) = bkN x)
theorem acc_iff {s : Bst} (hok : BsOk s) {x : Wr} (hm : mayW x = true) :
    (placeN s x).2 = true ↔ (∀ k (hk : k < s.es.length), togE s x s.es[k] = true → s.es[k].st.length ≤ 7) ∧ ((∀ k (hk : k < s.es.length), togE s x s.es[k] = false) → s.es.length ≤ 3) := by
  have hbk : ∀ k (hk : k < s.es.length) y, y ∈ s.es[k].st → bkN y = bkN (hdE s.es[k]) := fun k hk y hy => hok.blk _ (List.getElem_mem hk) y hy _ (hdE_mem (hok.some _ (List.getElem_mem hk)).1)
  cases hq : seekN (sameBk x) s.es with
  | none =>
    have hno : ∀ k (hk : k < s.es.length), togE s x s.es[k] = false := fun k hk => by
      have := seekU_none hq k hk (hdE s.es[k]) (by rw [getD_ent hk]; exact hdE_mem (hok.some _ (List.getElem_mem hk)).1)
      unfold sameBk at this
      unfold togE
      rw [decide_eq_false_iff_not]
      rintro ⟨_, e⟩
      rw [decide_eq_false_iff_not] at this
      exact this e
    rw [placeN_none hm hq]
    simp only [decide_eq_true_eq]
    constructor
    · intro h; exact ⟨fun k hk ht => (by rw [hno k hk] at ht; cases ht), fun _ => by omega⟩
    · intro h; have := h.2 hno; omega
  | some q =>
    obtain ⟨g1, g2, g3, g4⟩ := seekU_some hq
    have hq1 : q.1 < s.es.length := g1
    rw [getD_ent hq1] at g2
    have e1 : bkN q.2 = bkN x := by unfold sameBk at g3; simpa using g3
    by_cases he : (s.es.getD q.1 ent0).ep = s.ep
    · rw [placeN_there hm hq he]
      rw [getD_ent hq1] at he ⊢
      have ht : togE s x s.es[q.1] = true := by
        unfold togE
        rw [decide_eq_true_eq]
        exact ⟨he, by rw [← hbk q.1 hq1 q.2 g2, e1]⟩
      simp only [decide_eq_true_eq]
      constructor
      · intro h
        refine ⟨fun k hk htk => ?_, fun hn => (by rw [hn q.1 hq1] at ht; cases ht)⟩
        have hkq : k = q.1 := by
          unfold togE at htk
          rw [decide_eq_true_eq] at htk
          rcases Nat.lt_trichotomy k q.1 with hl | hl | hl
          · have := (pair_get hok hl hq1).2 (by omega) (hdE s.es[k]) (hdE_mem (hok.some _ (List.getElem_mem hk)).1) q.2 g2
            rw [e1] at this
            exact absurd htk.2 this
          · exact hl
          · have := (pair_get hok hl hk).2 (by omega) q.2 g2 (hdE s.es[k]) (hdE_mem (hok.some _ (List.getElem_mem hk)).1)
            rw [e1] at this
            exact absurd htk.2.symm this
        subst hkq
        omega
      · intro h; have := h.1 q.1 hq1 ht; omega
    · rw [placeN_old hm hq he]
      rw [getD_ent hq1] at he
      have hle := (hok.ep _ (List.getElem_mem hq1)).2
      have hno : ∀ k (hk : k < s.es.length), togE s x s.es[k] = false := fun k hk => by
        unfold togE
        rw [decide_eq_false_iff_not]
        rintro ⟨h1, h2⟩
        have hjq : q.1 < k := by
          rcases Nat.lt_trichotomy q.1 k with hl | hl | hl
          · exact hl
          · subst hl; exact absurd h1 he
          · have := (pair_get hok hl hq1).1; omega
        have := g4 k hjq hk (hdE s.es[k]) (by rw [getD_ent hk]; exact hdE_mem (hok.some _ (List.getElem_mem hk)).1)
        unfold sameBk at this
        rw [decide_eq_false_iff_not] at this
        exact this h2
      simp only [decide_eq_true_eq]
      constructor
      · intro h; exact ⟨fun k hk ht => (by rw [hno k hk] at ht; cases ht), fun _ => by omega⟩
      · intro h; have := h.2 hno; omega
end Go.Proofs.Ytcddgcchpmjdiaa
