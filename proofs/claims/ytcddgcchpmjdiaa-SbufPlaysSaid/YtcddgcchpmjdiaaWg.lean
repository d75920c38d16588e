/- The document's buffer in plain words: all stores in the order in which they came; its groups are the entries. -/
import Derived.Test.YtcddgcchpmjdiaaVt
set_option maxRecDepth 100000
set_option linter.unusedVariables false
namespace Go.Proofs.Ytcddgcchpmjdiaa
open Go.RowKit

abbrev Sto := Wr × Int
structure Dbf where
  l : List Sto
  ep : Int
def keyS (x : Sto) : Int × Int := (x.2, bkN x.1)
def keysR : List Sto → List (Int × Int)
  | [] => []
  | x :: r => if keyS x ∈ keysR r then keysR r else keysR r ++ [keyS x]
def keysL (l : List Sto) : List (Int × Int) := keysR l.reverse
def selL (l : List Sto) (κ : Int × Int) : List Sto := l.filter fun x => decide (keyS x = κ)
/-- The groups, by their first stores. -/
def grpL (l : List Sto) : List (List Sto) := (keysL l).map (selL l)
theorem keysL_snoc (l : List Sto) (x : Sto) : keysL (l ++ [x]) = if keyS x ∈ keysL l then keysL l else keysL l ++ [keyS x] := by
  unfold keysL
  rw [List.reverse_append]
  rfl
theorem keysR_mem : ∀ (r : List Sto) (κ : Int × Int), κ ∈ keysR r ↔ ∃ x ∈ r, keyS x = κ
  | [], κ => by simp [keysR]
  | x :: r, κ => by
    rw [keysR]
    have ih := keysR_mem r
    by_cases h : keyS x ∈ keysR r
    · rw [if_pos h, ih κ]
      constructor
      · rintro ⟨y, hy, e⟩; exact ⟨y, List.mem_cons_of_mem _ hy, e⟩
      · rintro ⟨y, hy, e⟩
        rcases List.mem_cons.1 hy with rfl | hy
        · rw [e] at h; exact (ih κ).1 h
        · exact ⟨y, hy, e⟩
    · rw [if_neg h, List.mem_append, ih κ]
      constructor
      · rintro (⟨y, hy, e⟩ | h2)
        · exact ⟨y, List.mem_cons_of_mem _ hy, e⟩
        · exact ⟨x, List.mem_cons_self, (List.mem_singleton.1 h2).symm⟩
      · rintro ⟨y, hy, e⟩
        rcases List.mem_cons.1 hy with rfl | hy
        · right; simp [e]
        · left; exact ⟨y, hy, e⟩
theorem keysL_mem (l : List Sto) (κ : Int × Int) : κ ∈ keysL l ↔ ∃ x ∈ l, keyS x = κ := by
  unfold keysL
  rw [keysR_mem]
  simp only [List.mem_reverse]
theorem keysR_nodup : ∀ r : List Sto, (keysR r).Nodup
  | [] => .nil
  | x :: r => by
    rw [keysR]
    by_cases h : keyS x ∈ keysR r
    · rw [if_pos h]; exact keysR_nodup r
    · rw [if_neg h]
      refine List.nodup_append.2 ⟨keysR_nodup r, by simp, fun a ha b hb e => ?_⟩
      simp at hb
      rw [e, hb] at ha
      exact h ha
theorem keysL_nodup (l : List Sto) : (keysL l).Nodup := keysR_nodup _
theorem keysR_filter (κ : Int × Int) : ∀ r : List Sto, keysR (r.filter fun x => !decide (keyS x = κ)) = (keysR r).filter fun q => !decide (q = κ)
  | [] => rfl
  | x :: r => by
    have ih := keysR_filter κ r
    by_cases hx : keyS x = κ
    · rw [List.filter_cons_of_neg (by simp [hx]), ih, keysR]
      by_cases h : keyS x ∈ keysR r
      · rw [if_pos h]
      · rw [if_neg h, List.filter_append]; simp [hx]
    · rw [List.filter_cons_of_pos (by simp [hx]), keysR, keysR, ih]
      have hm : keyS x ∈ (keysR r).filter (fun q => !decide (q = κ)) ↔ keyS x ∈ keysR r := by simp [hx]
      by_cases h : keyS x ∈ keysR r
      · rw [if_pos h, if_pos (hm.2 h)]
      · rw [if_neg h, if_neg (fun a => h (hm.1 a)), List.filter_append]; simp [hx]
theorem keysL_filter (l : List Sto) (κ : Int × Int) : keysL (l.filter fun x => !decide (keyS x = κ)) = (keysL l).filter fun q => !decide (q = κ) := by
  unfold keysL
  rw [← List.filter_reverse, keysR_filter]
theorem grpL_len (l : List Sto) : (grpL l).length = (keysL l).length := List.length_map ..
theorem nodup_idx {α : Type} {l : List α} (h : l.Nodup) {i j : Nat} (hi : i < l.length) (hj : j < l.length) (e : l[i] = l[j]) : i = j := by
  rcases Nat.lt_trichotomy i j with h1 | h1 | h1
  · exact absurd e (List.pairwise_iff_getElem.1 h i j hi hj h1)
  · exact h1
  · exact absurd e.symm (List.pairwise_iff_getElem.1 h j i hj hi h1)
theorem selL_snoc (l : List Sto) (x : Sto) (κ : Int × Int) : selL (l ++ [x]) κ = if keyS x = κ then selL l κ ++ [x] else selL l κ := by
  unfold selL
  rw [List.filter_append]
  by_cases h : keyS x = κ <;> simp [h]
theorem grpL_old (l : List Sto) (x : Sto) {k : Nat} (hk : k < (keysL l).length) (h : (keysL l)[k] = keyS x) : grpL (l ++ [x]) = (grpL l).set k (selL l (keyS x) ++ [x]) := by
  have hm : keyS x ∈ keysL l := by rw [← h]; exact List.getElem_mem _
  unfold grpL
  rw [keysL_snoc, if_pos hm]
  refine List.ext_getElem (by simp) fun j h1 h2 => ?_
  have hj : j < (keysL l).length := by simpa using h1
  rw [List.getElem_map, selL_snoc]
  by_cases e : j = k
  · subst e
    rw [List.getElem_set_self, h, if_pos rfl]
  · rw [List.getElem_set_ne (fun a => e a.symm), List.getElem_map, if_neg (fun a => e (nodup_idx (keysL_nodup l) hj hk (by rw [h, a])))]
theorem grpL_new (l : List Sto) (x : Sto) (h : keyS x ∉ keysL l) : grpL (l ++ [x]) = grpL l ++ [[x]] := by
  unfold grpL
  rw [keysL_snoc, if_neg h, List.map_append]
  congr 1
  · refine List.map_congr_left fun κ hκ => ?_
    rw [selL_snoc, if_neg (fun e => h (by rw [e]; exact hκ))]
  · rw [List.map_singleton, selL_snoc, if_pos rfl]
    have : selL l (keyS x) = [] := by
      unfold selL
      refine List.filter_eq_nil_iff.2 fun y hy he => h ?_
      rw [keysL_mem]
      exact ⟨y, hy, by simpa using he⟩
    rw [this]; rfl
/-- The groups are the buffer's entries. -/
def entG (e : Ent) : List Sto := e.st.map fun y => (y, e.ep)
structure TI (s : Bst) (D : Dbf) : Prop where
  ep : D.ep = s.ep
  grp : grpL D.l = s.es.map entG
  blk : ∀ β, fb β (D.l.map Prod.fst) = fb β (flatE s.es)
  sort : D.l.Pairwise fun a b => a.2 ≤ b.2
theorem TI.zero : TI ⟨[], 0⟩ ⟨[], 0⟩ := ⟨rfl, rfl, fun _ => rfl, .nil⟩
theorem TI.len {s : Bst} {D : Dbf} (h : TI s D) : (keysL D.l).length = s.es.length := by rw [← grpL_len, h.grp, List.length_map]
theorem TI.group {s : Bst} {D : Dbf} (h : TI s D) {k : Nat} (hk : k < s.es.length) (hk2 : k < (keysL D.l).length) : selL D.l (keysL D.l)[k] = entG s.es[k] := by
  have e := h.grp
  have : (grpL D.l)[k]'(by rw [grpL_len]; exact hk2) = (s.es.map entG)[k]'(by simpa using hk) := by simp only [e]
  unfold grpL at this
  rw [List.getElem_map, List.getElem_map] at this
  exact this
theorem TI.key {s : Bst} {D : Dbf} (h : TI s D) {k : Nat} (hk : k < s.es.length) (hk2 : k < (keysL D.l).length) {y : Wr} (hy : y ∈ s.es[k].st) : (keysL D.l)[k] = (s.es[k].ep, bkN y) := by
  have hm : (y, s.es[k].ep) ∈ selL D.l (keysL D.l)[k] := by rw [h.group hk hk2]; exact List.mem_map.2 ⟨y, hy, rfl⟩
  unfold selL at hm
  exact (of_decide_eq_true (List.mem_filter.1 hm).2).symm
theorem TI.mem {s : Bst} {D : Dbf} (h : TI s D) (x : Sto) : x ∈ D.l ↔ ∃ k, ∃ hk : k < s.es.length, x.1 ∈ s.es[k].st ∧ x.2 = s.es[k].ep := by
  constructor
  · intro hx
    have hm : keyS x ∈ keysL D.l := (keysL_mem _ _).2 ⟨x, hx, rfl⟩
    obtain ⟨k, hk, e⟩ := List.getElem_of_mem hm
    have hk1 : k < s.es.length := by rw [← h.len]; exact hk
    have hs : x ∈ selL D.l (keysL D.l)[k] := List.mem_filter.2 ⟨hx, by simp [e]⟩
    rw [h.group hk1 hk] at hs
    obtain ⟨y, hy, rfl⟩ := List.mem_map.1 hs
    exact ⟨k, hk1, hy, rfl⟩
  · rintro ⟨k, hk, hy, he⟩
    have hk2 : k < (keysL D.l).length := by rw [h.len]; exact hk
    have hs : x ∈ selL D.l (keysL D.l)[k] := by
      rw [h.group hk hk2]
      exact List.mem_map.2 ⟨x.1, hy, by rw [← he]⟩
    exact (List.mem_filter.1 hs).1
theorem TI.ok {s : Bst} {D : Dbf} (h : TI s D) (hok : BsOk s) {x : Sto} (hx : x ∈ D.l) : StOk x.1 ∧ 0 ≤ x.2 ∧ x.2 ≤ D.ep := by
  obtain ⟨k, hk, h1, h2⟩ := (h.mem x).1 hx
  have := hok.ep _ (List.getElem_mem hk)
  exact ⟨hok.st _ (List.getElem_mem hk) _ h1, by omega, by rw [h.ep]; omega⟩
theorem TI.put {s : Bst} {D : Dbf} (h : TI s D) (hok : BsOk s) {x : Wr} (hp : (placeN s x).2 = true) : TI (putB s x) ⟨D.l ++ [(low x, D.ep)], D.ep⟩ := by
  have hfb := put_fb hok hp
  refine ⟨by rw [putB_ep]; exact h.ep, ?_, fun β => ?_, ?_⟩
  · show grpL (D.l ++ [(low x, D.ep)]) = _
    rcases put_ways hok x with ⟨e, _⟩ | ⟨_, hm, hl, hk, e⟩ | ⟨_, hm, k, hk, he, hb, hl, e⟩
    · rw [hp] at e; cases e
    · rw [e]
      rw [grpL_new, h.grp, h.ep]
      · show _ = (s.es ++ [(⟨s.ep, [low x]⟩ : Ent)]).map entG
        rw [List.map_append]; rfl
      · intro hmm
        obtain ⟨y, hy, e2⟩ := (keysL_mem _ _).1 hmm
        obtain ⟨j, hj, h1, h2⟩ := (h.mem y).1 hy
        unfold keyS at e2
        simp only [Prod.mk.injEq] at e2
        have hbl : bkN (low x) = bkN x := bkN_low x
        exact hk _ (List.getElem_mem hj) (by have := h.ep; omega) y.1 h1 (by rw [e2.2, hbl])
    · rw [e]
      have hk2 : k < (keysL D.l).length := by rw [h.len]; exact hk
      obtain ⟨y, hy⟩ := List.exists_mem_of_length_pos (hok.some _ (List.getElem_mem hk)).1
      have hkey : (keysL D.l)[k] = keyS (low x, D.ep) := by
        rw [h.key hk hk2 hy, he, hb y hy]
        unfold keyS
        rw [h.ep, bkN_low]
      rw [grpL_old _ _ hk2 hkey, ← hkey, h.group hk hk2, h.grp, h.ep]
      show (s.es.map entG).set k _ = (s.es.set k ⟨s.ep, s.es[k].st ++ [low x]⟩).map entG
      rw [List.map_set]
      congr 1
      unfold entG
      simp only [List.map_append, List.map_cons, List.map_nil, he]
  · show fb β ((D.l ++ [(low x, D.ep)]).map Prod.fst) = _
    rw [hfb β, List.map_append, fb_append, h.blk β]
    rfl
  · refine List.pairwise_append.2 ⟨h.sort, by simp, fun a ha b hb => ?_⟩
    simp at hb
    rw [hb]
    exact (h.ok hok ha).2.2
theorem TI.bar {s : Bst} {D : Dbf} (h : TI s D) {e : Int} (he : e = (barB s).ep) : TI (barB s) ⟨D.l, e⟩ := by
  have := barB_ep s
  exact ⟨he, by rw [this.2]; exact h.grp, fun β => by rw [this.2]; exact h.blk β, h.sort⟩
theorem fb_filter (β : Int) (l : List Sto) : fb β (l.map Prod.fst) = (l.filter fun x => decide (bkN x.1 = β)).map Prod.fst := by
  unfold fb
  rw [List.filter_map]
  rfl
/-- Of one block the stores of the least epoch stand ahead. -/
theorem least_first (m β : Int) : ∀ l : List Sto, (l.Pairwise fun a b => a.2 ≤ b.2) → (∀ x ∈ l, m ≤ x.2) →
    (l.filter fun x => decide (bkN x.1 = β)) = (l.filter fun x => decide (keyS x = (m, β))) ++ ((l.filter fun x => !decide (keyS x = (m, β))).filter fun x => decide (bkN x.1 = β))
  | [], _, _ => rfl
  | x :: r, hs, hm => by
    have hs' := List.pairwise_cons.1 hs
    have ih := least_first m β r hs'.2 (fun y hy => hm y (List.mem_cons_of_mem _ hy))
    have hx := hm x List.mem_cons_self
    by_cases hb : bkN x.1 = β
    · by_cases he : x.2 = m
      · have hk : keyS x = (m, β) := by unfold keyS; rw [hb, he]
        rw [List.filter_cons_of_pos (by simp [hb]), List.filter_cons_of_pos (by simp [hk]), List.filter_cons_of_neg (by simp [hk]), ih]
        rfl
      · have hk : ¬ keyS x = (m, β) := fun e => he (by unfold keyS at e; simp only [Prod.mk.injEq] at e; exact e.1)
        have hno : ∀ y ∈ r, ¬ keyS y = (m, β) := fun y hy e => by
          have := hs'.1 y hy
          unfold keyS at e
          simp only [Prod.mk.injEq] at e
          omega
        have h0 : (r.filter fun x => decide (keyS x = (m, β))) = [] := List.filter_eq_nil_iff.2 fun y hy => by simpa using hno y hy
        rw [h0, List.nil_append] at ih
        rw [List.filter_cons_of_pos (by simp [hb]), List.filter_cons_of_neg (by simp [hk]), List.filter_cons_of_pos (by simp [hk]), List.filter_cons_of_pos (by simp [hb]), h0, List.nil_append, ← ih]
    · have hk : ¬ keyS x = (m, β) := fun e => hb (by unfold keyS at e; simp only [Prod.mk.injEq] at e; exact e.2)
      rw [List.filter_cons_of_neg (by simp [hb]), List.filter_cons_of_neg (by simp [hk]), List.filter_cons_of_pos (by simp [hk]), List.filter_cons_of_neg (by simp [hb])]
      exact ih
/-- Drain: the group goes. -/
theorem TI.dra {s : Bst} {D : Dbf} (h : TI s D) (hok : BsOk s) {q : Int} (hg : mayGo s q = true) {κ : Int × Int} (hκ : ∃ k, ∃ hk : k < s.es.length, q = (k : Int) ∧ ∃ y ∈ s.es[k].st, κ = (s.es[k].ep, bkN y)) :
    (selL D.l κ).map Prod.fst = outB s q ∧ TI (draB s q) ⟨D.l.filter fun x => !decide (keyS x = κ), D.ep⟩ := by
  have hdf := dra_fb hok hg
  obtain ⟨k, hk, rfl, y, hy, rfl⟩ := hκ
  have hk2 : k < (keysL D.l).length := by rw [h.len]; exact hk
  have hkey := h.key hk hk2 hy
  have hout : outB s (k : Int) = s.es[k].st := by
    unfold outB
    rw [if_pos hg, Int.toNat_natCast, getD_ent hk]
  have hdr : draB s (k : Int) = ⟨s.es.eraseIdx k, s.ep⟩ := by
    unfold draB
    rw [if_pos hg, Int.toNat_natCast]
  have hsel : selL D.l (s.es[k].ep, bkN y) = entG s.es[k] := by rw [← hkey]; exact h.group hk hk2
  have hmap : (entG s.es[k]).map Prod.fst = s.es[k].st := by
    unfold entG
    rw [List.map_map]
    exact List.map_id' _
  refine ⟨by rw [hsel, hmap, hout], ?_⟩
  have hgo := hg
  unfold mayGo at hgo
  simp only [Bool.and_eq_true, decide_eq_true_eq, Int.toNat_natCast] at hgo
  have h0 : 0 < s.es.length := by omega
  rw [getD_ent hk, getD_ent h0] at hgo
  have hleast : ∀ x ∈ D.l, s.es[k].ep ≤ x.2 := fun x hx => by
    obtain ⟨j, hj, _, e⟩ := (h.mem x).1 hx
    rw [hgo.2, e]
    by_cases hj0 : j = 0
    · subst hj0; exact Int.le_refl _
    · exact (pair_get hok (show 0 < j by omega) hj).1
  rw [hdr] at hdf ⊢
  refine ⟨h.ep, ?_, fun β => ?_, List.Pairwise.sublist List.filter_sublist h.sort⟩
  · show grpL _ = (s.es.eraseIdx k).map entG
    unfold grpL
    rw [keysL_filter]
    have e1 : ((keysL D.l).filter fun q => !decide (q = (s.es[k].ep, bkN y))) = (keysL D.l).eraseIdx k := by
      rw [← hkey]
      have hn := keysL_nodup D.l
      generalize keysL D.l = L at *
      clear hkey hdf
      have eL : L = L.take k ++ (L[k] :: L.drop (k + 1)) := by rw [← List.drop_eq_getElem_cons hk2, List.take_append_drop]
      rw [List.eraseIdx_eq_take_drop_succ]
      have h1 : ∀ z ∈ L.take k, z ≠ L[k] := fun z hz e => by
        obtain ⟨j, hj, rfl⟩ := List.getElem_of_mem hz
        rw [List.length_take] at hj
        rw [List.getElem_take] at e
        have := nodup_idx hn (show j < L.length by omega) hk2 e
        omega
      have h2 : ∀ z ∈ L.drop (k + 1), z ≠ L[k] := fun z hz e => by
        obtain ⟨j, hj, rfl⟩ := List.getElem_of_mem hz
        rw [List.length_drop] at hj
        rw [List.getElem_drop] at e
        have := nodup_idx hn (show k + 1 + j < L.length by omega) hk2 e
        omega
      generalize hc : L[k] = c at *
      conv => lhs; rw [eL]
      rw [List.filter_append, List.filter_cons_of_neg (by simp)]
      congr 1
      · exact List.filter_eq_self.2 fun z hz => by simpa using h1 z hz
      · exact List.filter_eq_self.2 fun z hz => by simpa using h2 z hz
    rw [e1, List.eraseIdx_eq_take_drop_succ, List.eraseIdx_eq_take_drop_succ]
    have e3 : ∀ κ ∈ (keysL D.l).take k ++ (keysL D.l).drop (k + 1), κ ≠ (s.es[k].ep, bkN y) := fun κ hκ e => by
      rw [← List.eraseIdx_eq_take_drop_succ, ← e1, e] at hκ
      simp at hκ
    have e4 : ((keysL D.l).take k ++ (keysL D.l).drop (k + 1)).map (selL (D.l.filter fun x => !decide (keyS x = (s.es[k].ep, bkN y)))) = ((keysL D.l).take k ++ (keysL D.l).drop (k + 1)).map (selL D.l) := by
      refine List.map_congr_left fun κ hκ => ?_
      unfold selL
      rw [List.filter_filter]
      refine List.filter_congr fun x hx => ?_
      by_cases e : keyS x = κ
      · have := e3 κ hκ
        rw [← e] at this
        simp [e]
        rw [← e]; exact this
      · simp [e]
    rw [e4, List.map_append, List.map_append, List.map_take, List.map_drop]
    show (grpL D.l).take k ++ (grpL D.l).drop (k + 1) = _
    rw [h.grp, ← List.map_take, ← List.map_drop]
  · have e5 := hdf β
    rw [← h.blk β, fb_filter] at e5
    rw [hout] at e5
    show fb β ((D.l.filter fun x => !decide (keyS x = (s.es[k].ep, bkN y))).map Prod.fst) = _
    rw [fb_filter]
    by_cases hβ : bkN y = β
    · subst hβ
      rw [least_first s.es[k].ep (bkN y) D.l h.sort hleast, List.map_append] at e5
      have e6 : (D.l.filter fun x => decide (keyS x = (s.es[k].ep, bkN y))).map Prod.fst = s.es[k].st := by
        have : (selL D.l (s.es[k].ep, bkN y)).map Prod.fst = s.es[k].st := by rw [hsel, hmap]
        exact this
      have e7 : fb (bkN y) s.es[k].st = s.es[k].st := fb_all fun z hz => hok.blk _ (List.getElem_mem hk) z hz y hy
      rw [e6, e7] at e5
      exact List.append_cancel_left e5
    · have e7 : fb β s.es[k].st = [] := fb_none fun z hz e => hβ (by rw [← e]; exact hok.blk _ (List.getElem_mem hk) y hy z hz)
      rw [e7, List.nil_append] at e5
      rw [← e5, List.filter_filter]
      congr 1
      refine List.filter_congr fun x hx => ?_
      by_cases e : bkN x.1 = β
      · have : ¬ keyS x = (s.es[k].ep, bkN y) := fun e2 => hβ (by unfold keyS at e2; simp only [Prod.mk.injEq] at e2; rw [← e2.2, e])
        simp [e, this]
      · simp [e]
end Go.Proofs.Ytcddgcchpmjdiaa
