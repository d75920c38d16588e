/- The buffer in its blocks: an entry is added, a store is put into one, one goes. -/
import Derived.Test.YtcddgcchpmjdiaaVi
set_option maxRecDepth 100000
set_option linter.unusedVariables false
namespace Go.Proofs.Ytcddgcchpmjdiaa
open Go.RowKit

theorem sub_flatMap {α : Type} {f : α → List Nat} {l m : List α} (h : l.Sublist m) : (l.flatMap f).Sublist (m.flatMap f) := by
  induction h with
  | slnil => exact List.Sublist.refl _
  | cons a _ ih => rw [List.flatMap_cons]; exact ih.trans (List.sublist_append_right _ _)
  | cons_cons a _ ih => rw [List.flatMap_cons, List.flatMap_cons]; exact (List.Sublist.refl _).append ih
theorem nodup_at {α : Type} {f : α → List Nat} {l : List α} (h : (l.flatMap f).Nodup) {k : Nat} (hk : k < l.length) : ∀ i ∈ f l[k], i ∉ (l.eraseIdx k).flatMap f := by
  have e : l = l.take k ++ (l[k] :: l.drop (k + 1)) := by rw [← List.drop_eq_getElem_cons hk, List.take_append_drop]
  rw [e, List.flatMap_append, List.flatMap_cons] at h
  obtain ⟨_, h2, h3⟩ := List.nodup_append.1 h
  obtain ⟨_, _, h4⟩ := List.nodup_append.1 h2
  intro i hi hm
  rw [List.eraseIdx_eq_take_drop_succ, List.flatMap_append, List.mem_append] at hm
  rcases hm with hm | hm
  · exact h3 i hm i (List.mem_append.2 (.inl hi)) rfl
  · exact h4 i hi i hm rfl
def ownL (x : Ent × Value) : List Nat := x.2.ownBlock.toList
theorem foot_eq (p : Bpl) : p.foot = p.g :: (p.ve.ownBlock.toList ++ p.es.flatMap ownL) := rfl
theorem ent_one (x : Ent × Value) (h : x.2.oneCell' = true) : ∀ u ∈ [Value.int .i64 x.1.ep, x.2], u.oneCell' = true := by
  intro u hu
  simp at hu
  rcases hu with rfl | rfl
  · rfl
  · exact h
theorem own_one {w : World} {base n : Nat} {e : TypeId} {z : Nat} {v : Value} {xs : List Value} (h : w.ownsRow base e z v n xs) : v.oneCell' = true := by
  rcases h.2 with ⟨rfl, _⟩ | ⟨g, c, _, rfl, _⟩ <;> rfl
theorem BufAt.one {s : Bst} {p : Bpl} {w : World} (h : BufAt s p w) : ∀ u ∈ cellsE p.es, u.oneCell' = true := by
  intro u hu
  unfold cellsE at hu
  obtain ⟨x, hx, hu⟩ := List.mem_flatMap.1 hu
  exact ent_one x (own_one (h.each x hx)) u hu
/-- What is told of the buffer's blocks: that they are unlike. -/
theorem BufAt.parts {s : Bst} {p : Bpl} {w : World} (h : BufAt s p w) : (∀ b, p.ve.ownBlock = some b → b ≠ p.g) ∧ (∀ x ∈ p.es, ∀ i, x.2.ownBlock = some i → i ≠ p.g) ∧ (∀ b, p.ve.ownBlock = some b → ∀ x ∈ p.es, ∀ i, x.2.ownBlock = some i → i ≠ b) ∧ (p.es.flatMap ownL).Nodup := by
  have hd := h.apart
  rw [foot_eq, List.nodup_cons] at hd
  obtain ⟨h1, h2⟩ := hd
  obtain ⟨_, h3, h4⟩ := List.nodup_append.1 h2
  refine ⟨fun b hb e => h1 (by rw [← e]; simp [hb]), fun x hx i hi e => h1 (by rw [← e]; exact List.mem_append.2 (.inr (List.mem_flatMap.2 ⟨x, hx, by simp [ownL, hi]⟩))), fun b hb x hx i hi e => ?_, h3⟩
  exact h4 b (by simp [hb]) i (List.mem_flatMap.2 ⟨x, hx, by simp [ownL, hi]⟩) e.symm
/-- One entry goes. -/
theorem BufAt.drop {s : Bst} {p : Bpl} {w w1 : World} (h : BufAt s p w) {k b cap : Nat} (hk : k < s.es.length) (hve : p.ve = .slice (some ⟨b, 0, none⟩) s.es.length cap) (hf : Fr [b] w w1)
    (ho : w1.ownsRow 0 60 2 (.slice (some ⟨b, 0, none⟩) (s.es.length - 1) cap) (s.es.length - 1) (cellsE (p.es.eraseIdx k))) :
    ∃ p' : Bpl, BufAt ⟨s.es.eraseIdx k, s.ep⟩ p' (w1.setCell ⟨p.g, 0, none⟩ (.slice (some ⟨b, 0, none⟩) (s.es.length - 1) cap)) ∧ p'.g = p.g ∧ (∀ i ∈ p'.foot, i ∈ p.foot) ∧
      (∀ i, (svP p k).ownBlock = some i → i ∈ p.foot ∧ i ∉ p'.foot) ∧ Fr p.foot w (w1.setCell ⟨p.g, 0, none⟩ (.slice (some ⟨b, 0, none⟩) (s.es.length - 1) cap)) ∧
      (w1.setCell ⟨p.g, 0, none⟩ (.slice (some ⟨b, 0, none⟩) (s.es.length - 1) cap)).ownsRow 0 34 4 (svP p k) (s.es.getD k ent0).st.length (cellsW (s.es.getD k ent0).st) := by
  obtain ⟨h1, h2, h3, h4⟩ := h.parts
  have hb : p.ve.ownBlock = some b := by rw [hve]; rfl
  have hbg : b ≠ p.g := h1 b hb
  obtain ⟨hp, he⟩ := h.at_ hk
  have hsv : svP p k = p.es[k].2 := by
    unfold svP
    rw [List.getD_eq_getElem?_getD, List.getElem?_eq_getElem hp]
    rfl
  have hbf : b ∈ p.foot := by rw [foot_eq]; simp [hb]
  have hgf : p.g ∈ p.foot := by rw [foot_eq]; simp
  have hfr : Fr p.foot w w1 := ⟨hf.os, hf.tape, hf.output, hf.size, fun q hq hn => hf.block q hq (fun hm => hn (by simp at hm; rw [hm]; exact hbf))⟩
  have hset : Fr [p.g] w1 (w1.setCell ⟨p.g, 0, none⟩ (.slice (some ⟨b, 0, none⟩) (s.es.length - 1) cap)) := (Fr.refl _ _).setCell (.inl (by simp)) _
  have heach : ∀ x ∈ p.es, (w1.setCell ⟨p.g, 0, none⟩ (.slice (some ⟨b, 0, none⟩) (s.es.length - 1) cap)).ownsRow 0 34 4 x.2 x.1.st.length (cellsW x.1.st) := fun x hx =>
    hset.row (hf.row (h.each x hx) (fun i hi hm => h3 b hb x hx i hi (by simpa using hm))) (fun i hi hm => h2 x hx i hi (by simpa using hm))
  refine ⟨⟨p.g, .slice (some ⟨b, 0, none⟩) (s.es.length - 1) cap, p.es.eraseIdx k⟩, ⟨?_, ?_, ?_, ?_, ?_⟩, rfl, ?_, ?_, ?_, ?_⟩
  · show (p.es.eraseIdx k).map Prod.fst = s.es.eraseIdx k
    rw [← h.es, List.eraseIdx_eq_take_drop_succ, List.eraseIdx_eq_take_drop_succ, List.map_append, List.map_take, List.map_drop]
  · exact (hf.blk h.head (by simp; exact fun e => hbg e.symm)).set 0 _
  · show World.ownsRow _ 0 60 2 _ (s.es.eraseIdx k).length _
    rw [List.length_eraseIdx, if_pos hk]
    exact hset.row ho (fun i hi hm => by cases hi; simp at hm; exact hbg hm)
  · exact fun x hx => heach x (List.mem_of_mem_eraseIdx hx)
  · rw [foot_eq]
    refine List.Nodup.sublist ?_ h.apart
    rw [foot_eq, hb]
    exact ((List.Sublist.refl _).append (sub_flatMap (List.eraseIdx_sublist _ _))).cons_cons _
  · intro i hi
    rw [foot_eq] at hi ⊢
    rw [hb]
    exact (((List.Sublist.refl _).append (sub_flatMap (List.eraseIdx_sublist p.es k))).cons_cons p.g).subset hi
  · intro i hi
    rw [hsv] at hi
    have hx : p.es[k] ∈ p.es := List.getElem_mem _
    refine ⟨?_, ?_⟩
    · rw [foot_eq]
      exact List.mem_cons_of_mem _ (List.mem_append.2 (.inr (List.mem_flatMap.2 ⟨_, hx, by simp [ownL, hi]⟩)))
    · rw [foot_eq]
      intro hm
      simp only [List.mem_cons, List.mem_append, Option.mem_toList] at hm
      rcases hm with hm | hm | hm
      · exact h2 _ hx i hi hm
      · have : b = i := by simpa [Value.ownBlock] using hm
        exact h3 b hb _ hx i hi this.symm
      · exact nodup_at h4 hp i (by simp [ownL, hi]) hm
  · exact hfr.setCell (.inl hgf) _
  · rw [hsv, getD_ent hk, ← he]
    exact heach _ (List.getElem_mem _)
/-- A new entry without stores, the last one. -/
theorem BufAt.grow {s : Bst} {p : Bpl} {w w1 : World} (h : BufAt s p w) {b cap : Nat} (hg : w.grownBy w1 p.ve.ownBlock) (hat : p.ve.ownBlock = some b ∨ b = w.heap.size)
    (ho : w1.ownsRow 0 60 2 (.slice (some ⟨b, 0, none⟩) (s.es.length + 1) cap) (s.es.length + 1) (cellsE p.es ++ [.int .i64 s.ep, .slice none 0 0])) :
    BufAt ⟨s.es ++ [⟨s.ep, []⟩], s.ep⟩ ⟨p.g, .slice (some ⟨b, 0, none⟩) (s.es.length + 1) cap, p.es ++ [(⟨s.ep, []⟩, .slice none 0 0)]⟩ (w1.setCell ⟨p.g, 0, none⟩ (.slice (some ⟨b, 0, none⟩) (s.es.length + 1) cap)) := by
  obtain ⟨h1, h2, h3, h4⟩ := h.parts
  have hgl := h.head.lt
  have hbg : b ≠ p.g := by
    rcases hat with hb | hb
    · exact h1 b hb
    · omega
  have hnew : ∀ x ∈ p.es, ∀ i, x.2.ownBlock = some i → i ≠ b := fun x hx i hi => by
    rcases hat with hb | hb
    · exact h3 b hb x hx i hi
    · have := ((h.each x hx).lt i hi).2; omega
  have hset : Fr [p.g] w1 (w1.setCell ⟨p.g, 0, none⟩ (.slice (some ⟨b, 0, none⟩) (s.es.length + 1) cap)) := (Fr.refl _ _).setCell (.inl (by simp)) _
  refine ⟨?_, ?_, ?_, ?_, ?_⟩
  · show (p.es ++ [((⟨s.ep, []⟩ : Ent), Value.slice none 0 0)]).map Prod.fst = _
    rw [List.map_append, h.es]; rfl
  · have hh : Blk #[p.ve, .int .i64 s.ep] 27 p.g w1 := (hg.block p.g hgl (fun e => h1 p.g e.symm rfl)).trans h.head
    exact hh.set 0 _
  · show World.ownsRow _ 0 60 2 _ (s.es ++ [(⟨s.ep, []⟩ : Ent)]).length (cellsE (p.es ++ [((⟨s.ep, []⟩ : Ent), Value.slice none 0 0)]))
    rw [List.length_append, cellsE_append]
    exact hset.row ho (fun i hi hm => by cases hi; simp at hm; exact hbg hm)
  · intro x hx
    rcases List.mem_append.1 hx with hx | hx
    · refine hset.row ((h.each x hx).kept hg ?_) (fun i hi hm => h2 x hx i hi (by simpa using hm))
      cases hi : x.2.ownBlock with
      | none => exact .inl rfl
      | some i =>
        refine .inr fun e => ?_
        exact h3 i e.symm x hx i hi rfl
    · simp at hx
      subst hx
      exact World.ownsRow_nil _ _ _ _
  · rw [foot_eq, List.nodup_cons]
    have hfl : (p.es ++ [((⟨s.ep, []⟩ : Ent), Value.slice none 0 0)]).flatMap ownL = p.es.flatMap ownL := by rw [List.flatMap_append]; simp [ownL, Value.ownBlock]
    show p.g ∉ [b] ++ (p.es ++ [((⟨s.ep, []⟩ : Ent), Value.slice none 0 0)]).flatMap ownL ∧ ([b] ++ (p.es ++ [((⟨s.ep, []⟩ : Ent), Value.slice none 0 0)]).flatMap ownL).Nodup
    rw [hfl]
    refine ⟨fun hm => ?_, List.nodup_append.2 ⟨by simp, h4, fun i hi j hj e => ?_⟩⟩
    · rcases List.mem_append.1 hm with hm | hm
      · simp at hm; exact hbg hm.symm
      · obtain ⟨x, hx, hi⟩ := List.mem_flatMap.1 hm
        exact h2 x hx p.g (by simpa [ownL] using hi) rfl
    · obtain ⟨x, hx, hj⟩ := List.mem_flatMap.1 hj
      simp at hi
      exact hnew x hx j (by simpa [ownL] using hj) (by rw [← e, hi])
theorem rows_set {w : World} {e : TypeId} {z b n cap : Nat} {xs : List Value} (h : w.ownsRow 0 e z (.slice (some ⟨b, 0, none⟩) n cap) n xs) {q : Nat} (v : Value) : (w.setCell ⟨b, q, none⟩ v).ownsRow 0 e z (.slice (some ⟨b, 0, none⟩) n cap) n (xs.set q v) := by
  rcases h.2 with ⟨h1, _⟩ | ⟨g, cap', cur, hv, h0, hg, h2, h3, h4, h5⟩
  · cases h1
  · cases hv
    refine ⟨by rw [List.length_set]; exact h.1, .inr ⟨b, cap, cur.setIfInBounds q v, rfl, h0, ?_, h2, h3, by simpa using h4, ?_⟩⟩
    · have hb : Blk cur e b w := hg
      exact hb.set q v
    · rw [← h5, Array.toList_setIfInBounds, List.take_set]
theorem cellsE_set (l : Lent) (k : Nat) (hk : k < l.length) (st : List Wr) (v : Value) : (cellsE l).set (k * 2 + 1) v = cellsE (l.set k (⟨l[k].1.ep, st⟩, v)) := by
  induction l generalizing k with
  | nil => cases hk
  | cons d l ih =>
    cases k with
    | zero => rfl
    | succ k =>
      have hk' : k < l.length := by simpa using hk
      have := ih k hk'
      unfold cellsE at this ⊢
      rw [List.set_cons_succ, List.flatMap_cons, List.flatMap_cons, show (k + 1) * 2 + 1 = (k * 2 + 1) + 2 by omega]
      show Value.int .i64 d.1.ep :: d.2 :: _ = _
      simp only [List.cons_append, List.nil_append]
      congr 2
theorem mem_set_of {α : Type} {l : List α} {k : Nat} {y x : α} (h : x ∈ l.set k y) : x = y ∨ ∃ j, ∃ hj : j < l.length, j ≠ k ∧ x = l[j] := by
  obtain ⟨j, hj, rfl⟩ := List.getElem_of_mem h
  rw [List.length_set] at hj
  by_cases e : k = j
  · subst e; left; simp
  · right; exact ⟨j, hj, fun e' => e e'.symm, by rw [List.getElem_set_ne e]⟩
theorem set_split {α : Type} {l : List α} {k : Nat} (hk : k < l.length) (y : α) : l.set k y = l.take k ++ (y :: l.drop (k + 1)) := by
  rw [List.set_eq_take_append_cons_drop, if_pos hk]
theorem nodup_set {α : Type} {f : α → List Nat} {l : List α} (h : (l.flatMap f).Nodup) {k : Nat} (hk : k < l.length) {y : α} (hy : (f y).Nodup) (hn : ∀ i ∈ f y, ∀ j (hj : j < l.length), j ≠ k → i ∉ f l[j]) : ((l.set k y).flatMap f).Nodup := by
  have e : l = l.take k ++ (l[k] :: l.drop (k + 1)) := by rw [← List.drop_eq_getElem_cons hk, List.take_append_drop]
  rw [e, List.flatMap_append, List.flatMap_cons] at h
  obtain ⟨g1, g2, g3⟩ := List.nodup_append.1 h
  obtain ⟨_, g5, _⟩ := List.nodup_append.1 g2
  have hd : ∀ i ∈ f y, i ∉ (l.drop (k + 1)).flatMap f := fun i hi hm => by
    obtain ⟨x, hx, hm⟩ := List.mem_flatMap.1 hm
    obtain ⟨j, hj, rfl⟩ := List.getElem_of_mem hx
    rw [List.length_drop] at hj
    rw [List.getElem_drop] at hm
    exact hn i hi (k + 1 + j) (by omega) (by omega) hm
  have ht : ∀ i ∈ f y, i ∉ (l.take k).flatMap f := fun i hi hm => by
    obtain ⟨x, hx, hm⟩ := List.mem_flatMap.1 hm
    obtain ⟨j, hj, rfl⟩ := List.getElem_of_mem hx
    rw [List.length_take] at hj
    rw [List.getElem_take] at hm
    exact hn i hi j (by omega) (by omega) hm
  rw [set_split hk, List.flatMap_append, List.flatMap_cons]
  refine List.nodup_append.2 ⟨g1, List.nodup_append.2 ⟨hy, g5, fun i hi j hj e' => ?_⟩, fun i hi j hj e' => ?_⟩
  · subst e'; exact hd i hi hj
  · subst e'
    rcases List.mem_append.1 hj with hj | hj
    · exact ht i hj hi
    · exact g3 i hi i (List.mem_append.2 (.inr hj)) rfl
theorem flat_at_ne {α : Type} {f : α → List Nat} {l : List α} (h : (l.flatMap f).Nodup) {j k : Nat} (hj : j < l.length) (hk : k < l.length) (hne : j ≠ k) : ∀ i ∈ f l[k], i ∉ f l[j] := by
  intro i hi hm
  refine nodup_at h hk i hi (List.mem_flatMap.2 ⟨l[j], ?_, hm⟩)
  rw [List.mem_eraseIdx_iff_getElem]
  exact ⟨j, hj, hne, rfl⟩
/-- A store is put into entry k. -/
theorem BufAt.put {s : Bst} {p : Bpl} {w w1 : World} (h : BufAt s p w) {k b cap gs cs : Nat} (hk : k < s.es.length) (hve : p.ve = .slice (some ⟨b, 0, none⟩) s.es.length cap) (y : Wr)
    (hg : w.grownBy w1 (svP p k).ownBlock) (hat : (svP p k).ownBlock = some gs ∨ gs = w.heap.size)
    (ho : w1.ownsRow 0 34 4 (.slice (some ⟨gs, 0, none⟩) ((s.es.getD k ent0).st.length + 1) cs) ((s.es.getD k ent0).st.length + 1) (cellsW (s.es.getD k ent0).st ++ (wrCells y).toList)) :
    ∃ p' : Bpl, BufAt ⟨s.es.set k ⟨(s.es.getD k ent0).ep, (s.es.getD k ent0).st ++ [y]⟩, s.ep⟩ p' (w1.setCell ⟨b, k * 2 + 1, none⟩ (.slice (some ⟨gs, 0, none⟩) ((s.es.getD k ent0).st.length + 1) cs)) ∧ p'.g = p.g ∧
      (∀ i ∈ p'.foot, i ∈ p.foot ∨ i = w.heap.size) ∧ Fr p.foot w (w1.setCell ⟨b, k * 2 + 1, none⟩ (.slice (some ⟨gs, 0, none⟩) ((s.es.getD k ent0).st.length + 1) cs)) := by
  obtain ⟨h1, h2, h3, h4⟩ := h.parts
  have hb : p.ve.ownBlock = some b := by rw [hve]; rfl
  have hbg : b ≠ p.g := h1 b hb
  obtain ⟨hp, he⟩ := h.at_ hk
  have hx : p.es[k] ∈ p.es := List.getElem_mem _
  have hsv : svP p k = p.es[k].2 := by
    unfold svP
    rw [List.getD_eq_getElem?_getD, List.getElem?_eq_getElem hp]
    rfl
  have hek : s.es.getD k ent0 = p.es[k].1 := by rw [getD_ent hk, he]
  rw [hek] at ho ⊢
  rw [hsv] at hg hat
  have hbl := h.lt b (by rw [foot_eq]; simp [hb])
  have hgl := h.head.lt
  have hgsb : gs ≠ b := by
    rcases hat with hh | hh
    · exact h3 b hb _ hx gs hh
    · omega
  have hgsg : gs ≠ p.g := by
    rcases hat with hh | hh
    · exact h2 _ hx gs hh
    · omega
  have hset : Fr [b] w1 (w1.setCell ⟨b, k * 2 + 1, none⟩ (.slice (some ⟨gs, 0, none⟩) (p.es[k].1.st.length + 1) cs)) := (Fr.refl _ _).setCell (.inl (by simp)) _
  have hrow : w1.ownsRow 0 60 2 p.ve s.es.length (cellsE p.es) := h.row.kept hg (.inr fun e => h3 b hb _ hx b (by rw [← e, hb]) rfl)
  refine ⟨⟨p.g, p.ve, p.es.set k (⟨p.es[k].1.ep, p.es[k].1.st ++ [y]⟩, .slice (some ⟨gs, 0, none⟩) (p.es[k].1.st.length + 1) cs)⟩, ⟨?_, ?_, ?_, ?_, ?_⟩, rfl, ?_, ?_⟩
  · show (p.es.set k _).map Prod.fst = s.es.set k _
    rw [List.map_set, h.es]
  · have hh : Blk #[p.ve, .int .i64 s.ep] 27 p.g w1 := (hg.block p.g hgl (fun e => h2 _ hx p.g e.symm rfl)).trans h.head
    exact hset.blk hh (by simp; exact fun e => hbg e.symm)
  · show World.ownsRow _ 0 60 2 p.ve (s.es.set k _).length (cellsE (p.es.set k _))
    rw [List.length_set, ← cellsE_set p.es k hp (p.es[k].1.st ++ [y]), hve]
    rw [hve] at hrow
    exact rows_set hrow _
  · intro x hxm
    rcases mem_set_of hxm with rfl | ⟨j, hj, hjk, rfl⟩
    · show World.ownsRow _ 0 34 4 _ (p.es[k].1.st ++ [y]).length (cellsW (p.es[k].1.st ++ [y]))
      rw [List.length_append, cellsW_append, cellsW_one]
      exact hset.row ho (fun i hi hm => by cases hi; simp at hm; exact hgsb hm)
    · refine hset.row ((h.each _ (List.getElem_mem _)).kept hg ?_) (fun i hi hm => h3 b hb _ (List.getElem_mem _) i hi (by simpa using hm))
      cases hi : p.es[j].2.ownBlock with
      | none => exact .inl rfl
      | some i =>
        refine .inr fun e => ?_
        exact flat_at_ne h4 hj hp hjk i (by simp [ownL, ← e]) (by simp [ownL, hi])
  · rw [foot_eq, List.nodup_cons]
    show p.g ∉ p.ve.ownBlock.toList ++ (p.es.set k _).flatMap ownL ∧ (p.ve.ownBlock.toList ++ (p.es.set k _).flatMap ownL).Nodup
    rw [hb]
    refine ⟨fun hm => ?_, List.nodup_append.2 ⟨by simp, nodup_set h4 hp (by simp [ownL, Value.ownBlock]) (fun i hi j hj hjk hm => ?_), fun i hi j hj e => ?_⟩⟩
    · rcases List.mem_append.1 hm with hm | hm
      · simp at hm; exact hbg hm.symm
      · obtain ⟨x, hxm, hi⟩ := List.mem_flatMap.1 hm
        rcases mem_set_of hxm with rfl | ⟨j, hj, hjk, rfl⟩
        · simp [ownL, Value.ownBlock] at hi; exact hgsg hi.symm
        · exact h2 _ (List.getElem_mem _) p.g (by simpa [ownL] using hi) rfl
    · simp [ownL, Value.ownBlock] at hi
      subst hi
      rcases hat with hh | hh
      · exact flat_at_ne h4 hj hp hjk i (by simp [ownL, hh]) hm
      · have := ((h.each _ (List.getElem_mem hj)).lt i (by simpa [ownL] using hm)).2
        omega
    · simp at hi
      subst hi
      subst e
      obtain ⟨x, hxm, hj⟩ := List.mem_flatMap.1 hj
      rcases mem_set_of hxm with rfl | ⟨j, hj', hjk, rfl⟩
      · simp [ownL, Value.ownBlock] at hj; exact hgsb hj.symm
      · exact h3 i hb _ (List.getElem_mem _) i (by simpa [ownL] using hj) rfl
  · intro i hi
    rw [foot_eq] at hi ⊢
    simp only [List.mem_cons, List.mem_append] at hi ⊢
    rcases hi with hi | hi | hi
    · exact .inl (.inl hi)
    · exact .inl (.inr (.inl hi))
    · obtain ⟨x, hxm, hi⟩ := List.mem_flatMap.1 hi
      rcases mem_set_of hxm with rfl | ⟨j, hj', hjk, rfl⟩
      · simp [ownL, Value.ownBlock] at hi
        subst hi
        rcases hat with hh | hh
        · exact .inl (.inr (.inr (List.mem_flatMap.2 ⟨_, hx, by simp [ownL, hh]⟩)))
        · exact .inr hh
      · exact .inl (.inr (.inr (List.mem_flatMap.2 ⟨_, List.getElem_mem _, hi⟩)))
  · refine ((Fr.refl p.foot w).grown hg (fun i hi => .inl ?_)).setCell (.inl (by rw [foot_eq]; simp [hb])) _
    rw [foot_eq]
    exact List.mem_cons_of_mem _ (List.mem_append.2 (.inr (List.mem_flatMap.2 ⟨_, hx, by simp [ownL, hi]⟩)))
end Go.Proofs.Ytcddgcchpmjdiaa
