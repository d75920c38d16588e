/- The buffer in plain words: what it is stays as it may be; each block's stores keep their order. -/
import Derived.Test.YtcddgcchpmjdiaaVq
set_option maxRecDepth 100000
set_option linter.unusedVariables false
namespace Go.Proofs.Ytcddgcchpmjdiaa
open Go.RowKit

theorem bkN_low (x : Wr) : bkN (low x) = bkN x := rfl
theorem mayW_low (x : Wr) : mayW (low x) = mayW x := rfl
theorem low_ok {x : Wr} (hm : mayW x = true) (h0 : 0 ≤ x.data) (h1 : x.data < 2 ^ 64) : StOk (low x) := by
  refine ⟨by rw [mayW_low]; exact hm, ?_⟩
  show 0 ≤ zx x.data _ ∧ zx x.data _ < 2 ^ 64
  unfold zx
  have hp : (0 : Int) < 2 ^ (8 * x.size.toNat) := Int.pow_pos (by decide)
  have h2 := Int.emod_nonneg x.data (Int.ne_of_gt hp)
  have h4 := Int.emod_add_mul_ediv x.data (2 ^ (8 * x.size.toNat))
  have h5 := Int.mul_nonneg (Int.le_of_lt hp) (Int.ediv_nonneg h0 (Int.le_of_lt hp))
  omega
theorem pair_get {s : Bst} (h : BsOk s) {i j : Nat} (hij : i < j) (hj : j < s.es.length) : s.es[i].ep ≤ s.es[j].ep ∧ (s.es[i].ep = s.es[j].ep → ∀ x ∈ s.es[i].st, ∀ y ∈ s.es[j].st, bkN x ≠ bkN y) :=
  ⟨List.pairwise_iff_getElem.1 h.sort i j (by omega) hj hij, List.pairwise_iff_getElem.1 h.key i j (by omega) hj hij⟩
/-- Put, in three ways. -/
theorem put_ways {s : Bst} (h : BsOk s) (x : Wr) :
    ((placeN s x).2 = false ∧ putB s x = s) ∨
    ((placeN s x).2 = true ∧ mayW x = true ∧ s.es.length < 4 ∧ (∀ e ∈ s.es, e.ep = s.ep → ∀ y ∈ e.st, bkN y ≠ bkN x) ∧ putB s x = ⟨s.es ++ [⟨s.ep, [low x]⟩], s.ep⟩) ∨
    ((placeN s x).2 = true ∧ mayW x = true ∧ ∃ k, ∃ hk : k < s.es.length, s.es[k].ep = s.ep ∧ (∀ y ∈ s.es[k].st, bkN y = bkN x) ∧ s.es[k].st.length < 8 ∧ putB s x = ⟨s.es.set k ⟨s.ep, s.es[k].st ++ [low x]⟩, s.ep⟩) := by
  cases hpl : (placeN s x).2 with
  | false => exact .inl ⟨rfl, by unfold putB; rw [if_neg (by rw [hpl]; decide)]⟩
  | true =>
    right
    have hm := (placeN_yes hpl).1
    have hput : putB s x = (if (placeN s x).1 = s.es.length then ⟨s.es ++ [⟨s.ep, [low x]⟩], s.ep⟩ else ⟨s.es.set (placeN s x).1 ⟨(s.es.getD (placeN s x).1 ent0).ep, (s.es.getD (placeN s x).1 ent0).st ++ [low x]⟩, s.ep⟩) := by unfold putB; rw [if_pos hpl]
    cases hq : seekN (sameBk x) s.es with
    | none =>
      rw [placeN_none hm hq] at hpl hput
      refine .inl ⟨rfl, hm, by simpa using hpl, fun e he _ y hy => ?_, by rw [hput]; exact if_pos rfl⟩
      obtain ⟨j, hj, rfl⟩ := List.getElem_of_mem he
      have := seekU_none hq j hj y (by rw [getD_ent hj]; exact hy)
      unfold sameBk at this
      simpa using this
    | some q =>
      obtain ⟨g1, g2, g3, g4⟩ := seekU_some hq
      have hq1 : q.1 < s.es.length := g1
      by_cases he : (s.es.getD q.1 ent0).ep = s.ep
      · rw [placeN_there hm hq he] at hpl hput
        right
        refine ⟨rfl, hm, q.1, hq1, by rw [← getD_ent hq1]; exact he, fun y hy => ?_, ?_, ?_⟩
        · have e1 : bkN q.2 = bkN x := by unfold sameBk at g3; simpa using g3
          rw [← e1]
          exact h.blk _ (List.getElem_mem hq1) y hy q.2 (by rw [getD_ent hq1] at g2; exact g2)
        · rw [← getD_ent hq1]; simpa using hpl
        · rw [hput]
          show (if q.1 = s.es.length then _ else _) = _
          rw [if_neg (by omega), he, getD_ent hq1]
      · rw [placeN_old hm hq he] at hpl hput
        refine .inl ⟨rfl, hm, by simpa using hpl, fun e hm' hee y hy => ?_, by rw [hput]; exact if_pos rfl⟩
        obtain ⟨j, hj, rfl⟩ := List.getElem_of_mem hm'
        rw [getD_ent hq1] at he
        have hle := (h.ep _ (List.getElem_mem hq1)).2
        have hjq : q.1 < j := by
          rcases Nat.lt_trichotomy q.1 j with hl | hl | hl
          · exact hl
          · subst hl; exact absurd hee he
          · have := (pair_get h hl hq1).1; omega
        have := g4 j hjq hj y (by rw [getD_ent hj]; exact hy)
        unfold sameBk at this
        simpa using this
theorem BsOk.put {s : Bst} (h : BsOk s) (x : Wr) (h0 : 0 ≤ x.data) (h1 : x.data < 2 ^ 64) : BsOk (putB s x) := by
  rcases put_ways h x with ⟨_, e⟩ | ⟨_, hm, hl, hk, e⟩ | ⟨_, hm, k, hk, he, hb, hl, e⟩
  · rw [e]; exact h
  · rw [e]
    refine ⟨by simp; omega, ?_, ?_, ?_, ?_, ?_, ?_, h.ep0⟩
    · intro a ha
      rcases List.mem_append.1 ha with ha | ha
      · exact h.some a ha
      · simp at ha; subst ha; simp
    · intro a ha y hy
      rcases List.mem_append.1 ha with ha | ha
      · exact h.st a ha y hy
      · simp at ha; subst ha; simp at hy; subst hy; exact low_ok hm h0 h1
    · intro a ha y hy z hz
      rcases List.mem_append.1 ha with ha | ha
      · exact h.blk a ha y hy z hz
      · simp at ha; subst ha; simp at hy hz; rw [hy, hz]
    · intro a ha
      rcases List.mem_append.1 ha with ha | ha
      · exact h.ep a ha
      · simp at ha; subst ha; exact ⟨h.ep0, Int.le_refl _⟩
    · refine List.pairwise_append.2 ⟨h.sort, by simp, fun a ha b hb => ?_⟩
      simp at hb; subst hb
      exact (h.ep a ha).2
    · refine List.pairwise_append.2 ⟨h.key, by simp, fun a ha b hb => ?_⟩
      simp at hb; subst hb
      intro hab y hy z hz
      simp at hz; subst hz
      rw [bkN_low]
      exact hk a ha hab y hy
  · rw [e]
    have hg : ∀ j (hj : j < (s.es.set k ⟨s.ep, s.es[k].st ++ [low x]⟩).length), ∃ hj' : j < s.es.length, (s.es.set k ⟨s.ep, s.es[k].st ++ [low x]⟩)[j].ep = s.es[j].ep ∧ (∀ y ∈ (s.es.set k ⟨s.ep, s.es[k].st ++ [low x]⟩)[j].st, ∃ z ∈ s.es[j].st, bkN y = bkN z ∧ (j = k ∨ y = z)) := by
      intro j hj
      rw [List.length_set] at hj
      refine ⟨hj, ?_⟩
      by_cases hjk : k = j
      · subst hjk
        rw [List.getElem_set_self]
        refine ⟨he.symm, fun y hy => ?_⟩
        obtain ⟨z, hz⟩ := List.exists_mem_of_length_pos (h.some _ (List.getElem_mem hk)).1
        refine ⟨z, hz, ?_, .inl rfl⟩
        rw [hb z hz]
        rcases List.mem_append.1 hy with hy | hy
        · exact hb y hy
        · simp at hy; rw [hy]; rfl
      · rw [List.getElem_set_ne hjk]
        exact ⟨rfl, fun y hy => ⟨y, hy, rfl, .inr rfl⟩⟩
    refine ⟨by simp; exact h.len, ?_, ?_, ?_, ?_, ?_, ?_, h.ep0⟩
    · intro a ha
      rcases mem_set_of ha with rfl | ⟨j, hj, _, rfl⟩
      · simp; omega
      · exact h.some _ (List.getElem_mem _)
    · intro a ha y hy
      rcases mem_set_of ha with rfl | ⟨j, hj, _, rfl⟩
      · rcases List.mem_append.1 hy with hy | hy
        · exact h.st _ (List.getElem_mem _) y hy
        · simp at hy; subst hy; exact low_ok hm h0 h1
      · exact h.st _ (List.getElem_mem _) y hy
    · intro a ha y hy z hz
      rcases mem_set_of ha with rfl | ⟨j, hj, _, rfl⟩
      · have hxx : ∀ y ∈ s.es[k].st ++ [low x], bkN y = bkN x := fun y hy => by
          rcases List.mem_append.1 hy with hy | hy
          · exact hb y hy
          · simp at hy; subst hy; rfl
        rw [hxx y hy, hxx z hz]
      · exact h.blk _ (List.getElem_mem _) y hy z hz
    · intro a ha
      rcases mem_set_of ha with rfl | ⟨j, hj, _, rfl⟩
      · exact ⟨h.ep0, Int.le_refl _⟩
      · exact h.ep _ (List.getElem_mem _)
    · refine List.pairwise_iff_getElem.2 fun i j hi hj hij => ?_
      obtain ⟨hi', e1, _⟩ := hg i hi
      obtain ⟨hj', e2, _⟩ := hg j hj
      rw [e1, e2]
      exact (pair_get h hij hj').1
    · refine List.pairwise_iff_getElem.2 fun i j hi hj hij => ?_
      obtain ⟨hi', e1, f1⟩ := hg i hi
      obtain ⟨hj', e2, f2⟩ := hg j hj
      rw [e1, e2]
      intro hee y hy z hz
      obtain ⟨y', hy', ey, _⟩ := f1 y hy
      obtain ⟨z', hz', ez, _⟩ := f2 z hz
      rw [ey, ez]
      exact (pair_get h hij hj').2 hee y' hy' z' hz'
theorem BsOk.bar {s : Bst} (h : BsOk s) : BsOk (barB s) := by
  unfold barB
  split
  · exact ⟨h.len, h.some, h.st, h.blk, fun e he => ⟨(h.ep e he).1, by show e.ep ≤ s.ep + 1; have := (h.ep e he).2; omega⟩, h.sort, h.key, by show 0 ≤ s.ep + 1; have := h.ep0; omega⟩
  · exact h
theorem BsOk.dra {s : Bst} (h : BsOk s) (q : Int) : BsOk (draB s q) := by
  unfold draB
  split
  · have hm : ∀ e ∈ s.es.eraseIdx q.toNat, e ∈ s.es := fun e he => List.mem_of_mem_eraseIdx he
    exact ⟨Nat.le_trans (List.Sublist.length_le (List.eraseIdx_sublist _ _)) h.len, fun e he => h.some e (hm e he), fun e he => h.st e (hm e he), fun e he => h.blk e (hm e he), fun e he => h.ep e (hm e he), h.sort.sublist (List.eraseIdx_sublist _ _), h.key.sublist (List.eraseIdx_sublist _ _), h.ep0⟩
  · exact h
theorem putB_ep (s : Bst) (x : Wr) : (putB s x).ep = s.ep := by
  unfold putB
  split
  · split <;> rfl
  · rfl
theorem barB_ep (s : Bst) : (barB s).ep ≤ s.ep + 1 ∧ (barB s).es = s.es := by
  unfold barB
  split
  · exact ⟨Int.le_refl _, rfl⟩
  · exact ⟨by omega, rfl⟩
theorem draB_ep (s : Bst) (q : Int) : (draB s q).ep = s.ep := by unfold draB; split <;> rfl

/-! ### Block by block -/
def fb (β : Int) (l : List Wr) : List Wr := l.filter fun y => decide (bkN y = β)
theorem fb_append (β : Int) (l m : List Wr) : fb β (l ++ m) = fb β l ++ fb β m := by simp [fb]
theorem fb_none {β : Int} {l : List Wr} (h : ∀ y ∈ l, bkN y ≠ β) : fb β l = [] := by
  unfold fb
  exact List.filter_eq_nil_iff.2 fun y hy => by simpa using h y hy
theorem fb_all {β : Int} {l : List Wr} (h : ∀ y ∈ l, bkN y = β) : fb β l = l := by
  unfold fb
  exact List.filter_eq_self.2 fun y hy => by simpa using h y hy
theorem flatE_append (l m : List Ent) : flatE (l ++ m) = flatE l ++ flatE m := by unfold flatE; simp
theorem flatE_split {es : List Ent} {k : Nat} (hk : k < es.length) : flatE es = flatE (es.take k) ++ (es[k].st ++ flatE (es.drop (k + 1))) := by
  have e : es = es.take k ++ (es[k] :: es.drop (k + 1)) := by rw [← List.drop_eq_getElem_cons hk, List.take_append_drop]
  have : flatE es = flatE (es.take k ++ (es[k] :: es.drop (k + 1))) := by rw [← e]
  rw [this, flatE_append]
  unfold flatE
  rw [List.flatMap_cons]
theorem mem_flat_take {es : List Ent} {k : Nat} {y : Wr} (h : y ∈ flatE (es.take k)) : ∃ j, ∃ hj : j < es.length, j < k ∧ y ∈ es[j].st := by
  unfold flatE at h
  obtain ⟨e, he, hy⟩ := List.mem_flatMap.1 h
  obtain ⟨j, hj, rfl⟩ := List.getElem_of_mem he
  rw [List.length_take] at hj
  exact ⟨j, by omega, by omega, by rw [List.getElem_take] at hy; exact hy⟩
theorem mem_flat_drop {es : List Ent} {k : Nat} {y : Wr} (h : y ∈ flatE (es.drop k)) : ∃ j, ∃ hj : j < es.length, k ≤ j ∧ y ∈ es[j].st := by
  unfold flatE at h
  obtain ⟨e, he, hy⟩ := List.mem_flatMap.1 h
  obtain ⟨j, hj, rfl⟩ := List.getElem_of_mem he
  rw [List.length_drop] at hj
  exact ⟨k + j, by omega, by omega, by rw [List.getElem_drop] at hy; exact hy⟩
theorem put_fb {s : Bst} (h : BsOk s) {x : Wr} (hp : (placeN s x).2 = true) (β : Int) : fb β (flatE (putB s x).es) = fb β (flatE s.es) ++ fb β [low x] := by
  rcases put_ways h x with ⟨e, _⟩ | ⟨_, hm, hl, hk, e⟩ | ⟨_, hm, k, hk, he, hb, hl, e⟩
  · rw [hp] at e; cases e
  · rw [e]
    show fb β (flatE (s.es ++ [⟨s.ep, [low x]⟩])) = _
    rw [flatE_append, fb_append]
    simp [flatE]
  · rw [e]
    show fb β (flatE (s.es.set k ⟨s.ep, s.es[k].st ++ [low x]⟩)) = _
    have e1 : flatE (s.es.set k ⟨s.ep, s.es[k].st ++ [low x]⟩) = flatE (s.es.take k) ++ ((s.es[k].st ++ [low x]) ++ flatE (s.es.drop (k + 1))) := by
      rw [set_split hk, flatE_append]
      unfold flatE
      rw [List.flatMap_cons]
    have e2 : fb β [low x] ++ fb β (flatE (s.es.drop (k + 1))) = fb β (flatE (s.es.drop (k + 1))) ++ fb β [low x] := by
      by_cases hβ : bkN x = β
      · have : fb β (flatE (s.es.drop (k + 1))) = [] := fb_none fun y hy => by
          obtain ⟨j, hj, hkj, hy⟩ := mem_flat_drop hy
          have h1 := pair_get h (show k < j by omega) hj
          have h2 := (h.ep _ (List.getElem_mem hj)).2
          obtain ⟨z, hz⟩ := List.exists_mem_of_length_pos (h.some _ (List.getElem_mem hk)).1
          have h3 := h1.2 (by omega) z hz y hy
          rw [hb z hz, hβ] at h3
          exact fun e => h3 e.symm
        rw [this]; simp
      · have : fb β [low x] = [] := fb_none fun y hy => by simp at hy; subst hy; exact hβ
        rw [this]; simp
    rw [e1, flatE_split hk]
    simp only [fb_append, List.append_assoc]
    rw [e2]
theorem dra_fb {s : Bst} (h : BsOk s) {q : Int} (hg : mayGo s q = true) (β : Int) : fb β (flatE s.es) = fb β (outB s q) ++ fb β (flatE (draB s q).es) := by
  unfold outB draB
  rw [if_pos hg, if_pos hg]
  unfold mayGo at hg
  simp only [Bool.and_eq_true, decide_eq_true_eq] at hg
  obtain ⟨k, rfl⟩ : ∃ k : Nat, q = (k : Int) := ⟨q.toNat, by omega⟩
  have hk : k < s.es.length := by omega
  have he := hg.2
  simp only [Int.toNat_natCast] at he ⊢
  rw [getD_ent hk, getD_ent (show 0 < s.es.length by omega)] at he
  show fb β (flatE s.es) = fb β (s.es.getD k ent0).st ++ fb β (flatE (s.es.eraseIdx k))
  rw [getD_ent hk, List.eraseIdx_eq_take_drop_succ, flatE_append, flatE_split hk]
  simp only [fb_append]
  rw [← List.append_assoc, ← List.append_assoc]
  congr 1
  by_cases hβ : ∃ z ∈ s.es[k].st, bkN z = β
  · obtain ⟨z, hz, ez⟩ := hβ
    have : fb β (flatE (s.es.take k)) = [] := fb_none fun y hy => by
      obtain ⟨j, hj, hjk, hy⟩ := mem_flat_take hy
      have h1 := pair_get h hjk hk
      have h0 : s.es[0].ep ≤ s.es[j].ep := by
        by_cases hj0 : j = 0
        · subst hj0; exact Int.le_refl _
        · exact (pair_get h (show 0 < j by omega) hj).1
      have h3 := h1.2 (by omega) y hy z hz
      rw [ez] at h3
      exact h3
    rw [this]; simp
  · have : fb β s.es[k].st = [] := fb_none fun y hy e => hβ ⟨y, hy, e⟩
    rw [this]; simp
end Go.Proofs.Ytcddgcchpmjdiaa
