/- SbufOrder, plain: what overlaps, or has a barrier between, is drained in the order in which it came. -/
import Derived.Test.YthifeaolodmhhaaVy
set_option maxRecDepth 100000
set_option linter.unusedVariables false
namespace Go.Proofs.Ythifeaolodmhhaa
open Go.RowKit

abbrev Ep := Wr × Int
def flatQ (es : List Ent) : List Ep := es.flatMap fun e => e.st.map fun x => (x, e.ep)
theorem flatQ_append (l m : List Ent) : flatQ (l ++ m) = flatQ l ++ flatQ m := by unfold flatQ; simp
theorem flatQ_fst (es : List Ent) : (flatQ es).map Prod.fst = flatE es := by
  unfold flatQ flatE
  rw [List.map_flatMap]
  congr 1
  funext e
  rw [List.map_map]
  exact List.map_id _
theorem flatQ_split {es : List Ent} {k : Nat} (hk : k < es.length) : flatQ es = flatQ (es.take k) ++ (es[k].st.map (fun x => (x, es[k].ep)) ++ flatQ (es.drop (k + 1))) := by
  have e : es = es.take k ++ (es[k] :: es.drop (k + 1)) := by rw [← List.drop_eq_getElem_cons hk, List.take_append_drop]
  have : flatQ es = flatQ (es.take k ++ (es[k] :: es.drop (k + 1))) := by rw [← e]
  rw [this, flatQ_append]
  unfold flatQ
  rw [List.flatMap_cons]
theorem mem_flatQ {es : List Ent} {p : Ep} (h : p ∈ flatQ es) : ∃ j, ∃ hj : j < es.length, p.1 ∈ es[j].st ∧ p.2 = es[j].ep := by
  unfold flatQ at h
  obtain ⟨e, he, hp⟩ := List.mem_flatMap.1 h
  obtain ⟨x, hx, rfl⟩ := List.mem_map.1 hp
  obtain ⟨j, hj, rfl⟩ := List.getElem_of_mem he
  exact ⟨j, hj, hx, rfl⟩
theorem mem_flatQ_take {es : List Ent} {k : Nat} {p : Ep} (h : p ∈ flatQ (es.take k)) : ∃ j, ∃ hj : j < es.length, j < k ∧ p.1 ∈ es[j].st ∧ p.2 = es[j].ep := by
  obtain ⟨j, hj, h1, h2⟩ := mem_flatQ h
  rw [List.length_take] at hj
  rw [List.getElem_take] at h1 h2
  exact ⟨j, by omega, by omega, h1, h2⟩
/-- q must be ahead of p. -/
def must (q p : Ep) : Prop := q.1.id < p.1.id ∧ (ovl q.1.addr q.1.size p.1.addr p.1.size = true ∨ q.2 ≠ p.2)
def Good (l : List Ep) : Prop := l.Pairwise fun p q => ¬ must q p
theorem ovl_block {x y : Wr} (hx : mayW x = true) (hy : mayW y = true) (h : ovl x.addr x.size y.addr y.size = true) : bkN x = bkN y := by
  unfold ovl at h
  simp only [Bool.and_eq_true, decide_eq_true_eq] at h
  obtain ⟨_, h1, h2⟩ := h
  obtain ⟨_, hz, h0, hr, _⟩ := mayW_out hx
  obtain ⟨_, hz', h0', hr', _⟩ := mayW_out hy
  unfold bkN
  rcases hz with hz | hz | hz | hz <;> rcases hz' with hz' | hz' | hz' | hz' <;> rw [hz] at hr h2 <;> rw [hz'] at hr' h1 <;> omega
/-- A store as it came: itself, the barriers ahead of it, the epoch. -/
structure Zt where
  x : Wr
  age : Int
  ep : Int
def Zt.p (z : Zt) : Ep := (low z.x, z.ep)
/-- While stores come. -/
structure PO (s : Bst) (Z : List Zt) (nb k : Int) : Prop where
  ok : BsOk s
  perm : (flatQ s.es).Perm (Z.map Zt.p)
  ord : Z.Pairwise fun a b => a.x.id < b.x.id ∧ a.ep ≤ b.ep ∧ (a.age = b.age ↔ a.ep = b.ep)
  ids : ∀ z ∈ Z, z.x.id < k ∧ z.ep ≤ s.ep ∧ z.age ≤ nb ∧ (z.age = nb ↔ z.ep = s.ep)
  inc : ∀ e ∈ s.es, e.st.Pairwise fun a b => a.id < b.id
  may : ∀ z ∈ Z, mayW z.x = true
theorem PO.start : PO ⟨[], 0⟩ [] 0 0 := ⟨BsOk.zero, by simp [flatQ], .nil, by simp, by simp, by simp⟩
theorem PO.mem {s : Bst} {Z : List Zt} {nb k : Int} (h : PO s Z nb k) {j : Nat} (hj : j < s.es.length) {x : Wr} (hx : x ∈ s.es[j].st) : ∃ z ∈ Z, low z.x = x ∧ z.ep = s.es[j].ep := by
  have hm : (x, s.es[j].ep) ∈ flatQ s.es := List.mem_flatMap.2 ⟨s.es[j], List.getElem_mem _, List.mem_map.2 ⟨x, hx, rfl⟩⟩
  obtain ⟨z, hz, e⟩ := List.mem_map.1 (h.perm.subset hm)
  refine ⟨z, hz, ?_, ?_⟩
  · exact congrArg Prod.fst e
  · exact congrArg Prod.snd e
theorem PO.back {s : Bst} {Z : List Zt} {nb k : Int} (h : PO s Z nb k) {z : Zt} (hz : z ∈ Z) : ∃ j, ∃ hj : j < s.es.length, low z.x ∈ s.es[j].st ∧ z.ep = s.es[j].ep :=
  mem_flatQ (h.perm.symm.subset (List.mem_map.2 ⟨z, hz, rfl⟩))
theorem PO.bar {s : Bst} {Z : List Zt} {nb k : Int} (h : PO s Z nb k) : PO (barB s) Z (nb + 1) (k + 1) := by
  refine ⟨h.ok.bar, by rw [(barB_ep s).2]; exact h.perm, h.ord, fun z hz => ?_, by rw [(barB_ep s).2]; exact h.inc, h.may⟩
  obtain ⟨h1, h2, h3, h4⟩ := h.ids z hz
  have hne : z.ep ≠ (barB s).ep ∧ z.ep ≤ (barB s).ep := by
    unfold barB
    split
    · exact ⟨by show z.ep ≠ s.ep + 1; omega, by show z.ep ≤ s.ep + 1; omega⟩
    · rename_i hn
      refine ⟨fun e => hn ?_, h2⟩
      have e' : z.ep = s.ep := e
      obtain ⟨j, hj, _, hje⟩ := h.back hz
      refine ⟨by omega, ?_⟩
      rw [getD_ent (show s.es.length - 1 < s.es.length by omega)]
      have hle := (h.ok.ep _ (List.getElem_mem (show s.es.length - 1 < s.es.length by omega))).2
      by_cases hl : j = s.es.length - 1
      · subst hl; omega
      · have := (pair_get h.ok (show j < s.es.length - 1 by omega) (by omega)).1
        omega
  exact ⟨by omega, hne.2, by omega, ⟨fun e => by omega, fun e => absurd e hne.1⟩⟩
theorem PO.skip {s : Bst} {Z : List Zt} {nb k : Int} (h : PO s Z nb k) : PO s Z nb (k + 1) :=
  ⟨h.ok, h.perm, h.ord, fun z hz => by obtain ⟨h1, h2⟩ := h.ids z hz; exact ⟨by omega, h2⟩, h.inc, h.may⟩
theorem PO.put {s : Bst} {Z : List Zt} {nb k : Int} (h : PO s Z nb k) {x : Wr} (hid : x.id = k) (h0 : 0 ≤ x.data) (h1 : x.data < 2 ^ 64) (hp : (placeN s x).2 = true) : PO (putB s x) (Z ++ [⟨x, nb, s.ep⟩]) nb (k + 1) := by
  have hord : (Z ++ [(⟨x, nb, s.ep⟩ : Zt)]).Pairwise fun a b => a.x.id < b.x.id ∧ a.ep ≤ b.ep ∧ (a.age = b.age ↔ a.ep = b.ep) := by
    refine List.pairwise_append.2 ⟨h.ord, by simp, fun a ha b hb => ?_⟩
    simp at hb; subst hb
    obtain ⟨g1, g2, _, g4⟩ := h.ids a ha
    exact ⟨by show a.x.id < x.id; omega, g2, g4⟩
  have hids : ∀ z ∈ Z ++ [(⟨x, nb, s.ep⟩ : Zt)], z.x.id < k + 1 ∧ z.ep ≤ (putB s x).ep ∧ z.age ≤ nb ∧ (z.age = nb ↔ z.ep = (putB s x).ep) := by
    intro z hz
    rw [putB_ep]
    rcases List.mem_append.1 hz with hz | hz
    · obtain ⟨g1, g2⟩ := h.ids z hz
      exact ⟨by omega, g2⟩
    · simp at hz; subst hz
      exact ⟨by show x.id < k + 1; omega, Int.le_refl _, Int.le_refl _, by simp⟩
  have hmay : ∀ z ∈ Z ++ [(⟨x, nb, s.ep⟩ : Zt)], mayW z.x = true := by
    intro z hz
    rcases List.mem_append.1 hz with hz | hz
    · exact h.may z hz
    · simp at hz; subst hz; exact (placeN_yes hp).1
  rcases put_ways h.ok x with ⟨e, _⟩ | ⟨_, hm, hl, hk, e⟩ | ⟨_, hm, j, hj, he, hb, hl, e⟩
  · rw [hp] at e; cases e
  · refine ⟨h.ok.put x h0 h1, ?_, hord, hids, ?_, hmay⟩
    · rw [e]
      show (flatQ (s.es ++ [⟨s.ep, [low x]⟩])).Perm _
      rw [flatQ_append, List.map_append]
      exact h.perm.append (by simp [flatQ, Zt.p])
    · rw [e]
      intro a ha
      rcases List.mem_append.1 ha with ha | ha
      · exact h.inc a ha
      · simp at ha; subst ha; simp
  · refine ⟨h.ok.put x h0 h1, ?_, hord, hids, ?_, hmay⟩
    · rw [e]
      show (flatQ (s.es.set j ⟨s.ep, s.es[j].st ++ [low x]⟩)).Perm _
      have e1 : flatQ (s.es.set j ⟨s.ep, s.es[j].st ++ [low x]⟩) = flatQ (s.es.take j) ++ ((s.es[j].st.map (fun y => (y, s.ep)) ++ [(low x, s.ep)]) ++ flatQ (s.es.drop (j + 1))) := by
        rw [set_split hj, flatQ_append]
        unfold flatQ
        rw [List.flatMap_cons]
        simp
      rw [e1, List.map_append]
      have e2 := h.perm
      rw [flatQ_split hj, he] at e2
      refine List.Perm.trans ?_ (e2.append (List.Perm.refl [((⟨x, nb, s.ep⟩ : Zt)).p]))
      show (flatQ (s.es.take j) ++ ((s.es[j].st.map (fun y => (y, s.ep)) ++ [(low x, s.ep)]) ++ flatQ (s.es.drop (j + 1)))).Perm ((flatQ (s.es.take j) ++ (s.es[j].st.map (fun y => (y, s.ep)) ++ flatQ (s.es.drop (j + 1)))) ++ [(low x, s.ep)])
      rw [List.append_assoc, List.append_assoc, List.append_assoc]
      exact (((List.perm_append_comm (l₁ := [(low x, s.ep)]) (l₂ := flatQ (s.es.drop (j + 1)))).append_left _).append_left _)
    · rw [e]
      intro a ha
      rcases mem_set_of ha with rfl | ⟨i, hi, _, rfl⟩
      · refine List.pairwise_append.2 ⟨h.inc _ (List.getElem_mem _), by simp, fun a ha b hb' => ?_⟩
        simp at hb'; subst hb'
        obtain ⟨z, hz, e3, _⟩ := h.mem hj ha
        have := (h.ids z hz).1
        rw [← e3]
        show z.x.id < x.id
        omega
      · exact h.inc _ (List.getElem_mem _)
theorem PO.good {s : Bst} {Z : List Zt} {nb k : Int} (h : PO s Z nb k) : Good (flatQ s.es) := by
  unfold Good flatQ
  rw [List.pairwise_flatMap]
  refine ⟨fun e he => ?_, ?_⟩
  · rw [List.pairwise_map]
    refine (h.inc e he).imp fun {a b} hab hm => ?_
    have := hm.1
    simp at this
    omega
  · refine List.pairwise_iff_getElem.2 fun i j hi hj hij => ?_
    intro p hp q hq hm
    obtain ⟨a, ha, rfl⟩ := List.mem_map.1 hp
    obtain ⟨b, hb, rfl⟩ := List.mem_map.1 hq
    obtain ⟨g1, g2⟩ := pair_get h.ok hij hj
    obtain ⟨m1, m2⟩ := hm
    dsimp only at m1 m2
    by_cases he : s.es[i].ep = s.es[j].ep
    · rcases m2 with m2 | m2
      · exact g2 he a ha b hb (ovl_block (h.ok.st _ (List.getElem_mem _) b hb).may (h.ok.st _ (List.getElem_mem _) a ha).may m2).symm
      · exact m2 he.symm
    · obtain ⟨za, hza, ea, epa⟩ := h.mem hi ha
      obtain ⟨zb, hzb, eb, epb⟩ := h.mem hj hb
      obtain ⟨ia, hia, rfl⟩ := List.getElem_of_mem hza
      obtain ⟨ib, hib, rfl⟩ := List.getElem_of_mem hzb
      have ia' : (Z[ia]).x.id = a.id := by rw [← ea]; rfl
      have ib' : (Z[ib]).x.id = b.id := by rw [← eb]; rfl
      rcases Nat.lt_trichotomy ia ib with hl | hl | hl
      · have := (List.pairwise_iff_getElem.1 h.ord ia ib hia hib hl).1; omega
      · subst hl; omega
      · have := (List.pairwise_iff_getElem.1 h.ord ib ia hib hia hl).2.1; omega
/-- While entries are drained. -/
structure DO (s : Bst) (D : List Ep) (Z : List Zt) : Prop where
  ok : BsOk s
  good : Good (D ++ flatQ s.es)
  perm : (D ++ flatQ s.es).Perm (Z.map Zt.p)
theorem PO.drain {s : Bst} {Z : List Zt} {nb k : Int} (h : PO s Z nb k) : DO s [] Z := ⟨h.ok, h.good, h.perm⟩
theorem DO.step {s : Bst} {D : List Ep} {Z : List Zt} (h : DO s D Z) {q : Int} (hg : mayGo s q = true) : ∃ E : Int, DO (draB s q) (D ++ (outB s q).map fun x => (x, E)) Z := by
  unfold mayGo at hg
  simp only [Bool.and_eq_true, decide_eq_true_eq] at hg
  obtain ⟨k, rfl⟩ : ∃ k : Nat, q = (k : Int) := ⟨q.toNat, by omega⟩
  have hk : k < s.es.length := by omega
  have hgo : mayGo s (k : Int) = true := by unfold mayGo; simp only [Bool.and_eq_true, decide_eq_true_eq]; exact hg
  have he := hg.2
  simp only [Int.toNat_natCast] at he
  rw [getD_ent hk, getD_ent (show 0 < s.es.length by omega)] at he
  refine ⟨s.es[k].ep, h.ok.dra _, ?_, ?_⟩
  · have hgd := h.good
    unfold outB draB
    rw [if_pos hgo, if_pos hgo]
    simp only [Int.toNat_natCast]
    show Good (D ++ _ ++ flatQ (s.es.eraseIdx k))
    rw [getD_ent hk, List.eraseIdx_eq_take_drop_succ, flatQ_append]
    rw [flatQ_split hk] at hgd
    unfold Good at hgd ⊢
    rw [List.append_assoc]
    rw [List.pairwise_append] at hgd ⊢
    obtain ⟨a1, a2, a3⟩ := hgd
    rw [List.pairwise_append] at a2
    obtain ⟨b1, b2, b3⟩ := a2
    rw [List.pairwise_append] at b2
    obtain ⟨c1, c2, c3⟩ := b2
    refine ⟨a1, ?_, fun p hp q hq => a3 p hp q ?_⟩
    · rw [List.pairwise_append]
      refine ⟨c1, ?_, fun p hp q hq => ?_⟩
      · rw [List.pairwise_append]
        exact ⟨b1, c2, fun p hp q hq => b3 p hp q (List.mem_append.2 (.inr hq))⟩
      · rcases List.mem_append.1 hq with hq | hq
        · obtain ⟨j, hj, hjk, hqx, hqe⟩ := mem_flatQ_take hq
          obtain ⟨x, hx, rfl⟩ := List.mem_map.1 hp
          rintro ⟨m1, m2⟩
          dsimp only at m1 m2
          have h0 : s.es[0].ep ≤ s.es[j].ep := by
            by_cases hj0 : j = 0
            · subst hj0; exact Int.le_refl _
            · exact (pair_get h.ok (show 0 < j by omega) hj).1
          obtain ⟨g1, g2⟩ := pair_get h.ok hjk hk
          rcases m2 with m2 | m2
          · exact g2 (by omega) q.1 hqx x hx (ovl_block (h.ok.st _ (List.getElem_mem _) _ hqx).may (h.ok.st _ (List.getElem_mem _) x hx).may m2)
          · exact m2 (by rw [hqe]; omega)
        · exact c3 p hp q hq
    · simp only [List.mem_append] at hq ⊢
      rcases hq with hq | hq | hq
      · exact .inr (.inl hq)
      · exact .inl hq
      · exact .inr (.inr hq)
  · refine List.Perm.trans ?_ h.perm
    unfold outB draB
    rw [if_pos hgo, if_pos hgo]
    simp only [Int.toNat_natCast]
    show (D ++ _ ++ flatQ (s.es.eraseIdx k)).Perm _
    rw [getD_ent hk, List.eraseIdx_eq_take_drop_succ, flatQ_append, List.append_assoc]
    conv => rhs; rw [flatQ_split hk]
    refine List.Perm.append_left _ ?_
    rw [← List.append_assoc, ← List.append_assoc]
    exact List.perm_append_comm.append_right _
/-- The last place at which a number stands, among the first j. -/
def lastI (i : Int) (l : List Int) : Nat → Int
  | 0 => -1
  | j + 1 => if l.getD j 0 = i then (j : Int) else lastI i l j
theorem lastI_spec (i : Int) (l : List Int) : ∀ j, (lastI i l j = -1 ∧ ∀ k, k < j → l.getD k 0 ≠ i) ∨ ∃ k, k < j ∧ lastI i l j = (k : Int) ∧ l.getD k 0 = i
  | 0 => .inl ⟨rfl, fun k hk => by omega⟩
  | j + 1 => by
    unfold lastI
    by_cases h : l.getD j 0 = i
    · rw [if_pos h]; exact .inr ⟨j, by omega, rfl, h⟩
    · rw [if_neg h]
      rcases lastI_spec i l j with ⟨h1, h2⟩ | ⟨k, h1, h2, h3⟩
      · refine .inl ⟨h1, fun k hk => ?_⟩
        by_cases e : k = j
        · subst e; exact h
        · exact h2 k (by omega)
      · exact .inr ⟨k, by omega, h2, h3⟩
/-- At the end: of two that must stand so, the first one was drained first. -/
theorem DO.ends {s : Bst} {D : List Ep} {Z : List Zt} {nb k : Int} {s0 : Bst} (h : DO s D Z) (h0 : PO s0 Z nb k) (hn : s.es.length = 0) {i j : Nat} (hij : i < j) (hj : j < Z.length)
    (hm : ovl Z[i].x.addr Z[i].x.size Z[j].x.addr Z[j].x.size = true ∨ Z[i].age ≠ Z[j].age) :
    0 ≤ lastI Z[i].x.id (D.map fun p => p.1.id) D.length ∧ 0 ≤ lastI Z[j].x.id (D.map fun p => p.1.id) D.length ∧ lastI Z[i].x.id (D.map fun p => p.1.id) D.length ≤ lastI Z[j].x.id (D.map fun p => p.1.id) D.length := by
  have hft : flatQ s.es = [] := by rw [List.eq_nil_of_length_eq_zero hn]; rfl
  have hg := h.good
  have hp := h.perm
  rw [hft, List.append_nil] at hg hp
  have hDi : ∀ {a : Nat} (ha : a < Z.length), ∃ b, ∃ hb : b < D.length, D[b] = Z[a].p := fun {a} ha => by
    have : Z[a].p ∈ D := hp.symm.subset (List.mem_map.2 ⟨_, List.getElem_mem ha, rfl⟩)
    obtain ⟨b, hb, e⟩ := List.getElem_of_mem this
    exact ⟨b, hb, e⟩
  have hid : ∀ {a b : Nat} (ha : a < Z.length) (hb : b < D.length), D[b].1.id = Z[a].x.id → D[b] = Z[a].p := fun {a b} ha hb e => by
    obtain ⟨z, hz, ez⟩ := List.mem_map.1 (hp.subset (List.getElem_mem hb))
    obtain ⟨c, hc, rfl⟩ := List.getElem_of_mem hz
    rw [← ez]
    have e2 : Z[c].x.id = Z[a].x.id := by rw [← e, ← ez]; rfl
    rcases Nat.lt_trichotomy c a with hl | hl | hl
    · have := (List.pairwise_iff_getElem.1 h0.ord c a hc ha hl).1; omega
    · subst hl; rfl
    · have := (List.pairwise_iff_getElem.1 h0.ord a c ha hc hl).1; omega
  have hget : ∀ b, b < D.length → (D.map fun p => p.1.id).getD b 0 = (D.getD b (⟨0, 0, 0, 0⟩, 0)).1.id := fun b hb => by
    rw [List.getD_eq_getElem?_getD, List.getD_eq_getElem?_getD, List.getElem?_map, List.getElem?_eq_getElem hb]; rfl
  have hgd : ∀ b (hb : b < D.length), (D.map fun p => p.1.id).getD b 0 = D[b].1.id := fun b hb => by
    rw [List.getD_eq_getElem?_getD, List.getElem?_map, List.getElem?_eq_getElem hb]; rfl
  have hpos : ∀ {a : Nat} (ha : a < Z.length), ∃ b, ∃ hb : b < D.length, lastI Z[a].x.id (D.map fun p => p.1.id) D.length = (b : Int) ∧ D[b] = Z[a].p := fun {a} ha => by
    rcases lastI_spec Z[a].x.id (D.map fun p => p.1.id) D.length with ⟨_, h2⟩ | ⟨b, h1, h2, h3⟩
    · obtain ⟨b, hb, e⟩ := hDi ha
      exact absurd (by rw [hgd b hb, e]; rfl) (h2 b hb)
    · exact ⟨b, h1, h2, hid ha h1 (by rw [← hgd b h1]; exact h3)⟩
  obtain ⟨a, ha, ea, ea'⟩ := hpos (show i < Z.length by omega)
  obtain ⟨c, hc, ec, ec'⟩ := hpos hj
  rw [ea, ec]
  refine ⟨by omega, by omega, ?_⟩
  have hor := List.pairwise_iff_getElem.1 h0.ord i j (by omega) hj hij
  rcases Nat.lt_trichotomy a c with hl | hl | hl
  · omega
  · omega
  · exfalso
    refine List.pairwise_iff_getElem.1 hg c a hc ha hl ?_
    rw [ea', ec']
    refine ⟨hor.1, ?_⟩
    rcases hm with hm | hm
    · exact .inl hm
    · exact .inr (fun e => hm (hor.2.2.2 e))
end Go.Proofs.Ythifeaolodmhhaa
