/- SbufOrder: stores that overlap, and stores with a barrier between, are drained in the order in which they came. -/
import Derived.Test.YthifeaolodmhhaaWe
import Derived.Test.YthifeaolodmhhaaVz
import Derived.Deep.CutBlock
import Derived.BigQuiet
set_option maxRecDepth 100000
set_option linter.unusedVariables false
namespace Go.Proofs.Ythifeaolodmhhaa
open Go.RowKit

def vq (v : Value) : List Nat := v.ownBlock.toList
theorem mem_vq {v : Value} {k : Nat} : k ∈ vq v ↔ v.ownBlock = some k := by unfold vq; simp
theorem vq_some (g n c : Nat) : vq (.slice (some ⟨g, 0, none⟩) n c) = [g] := by simp [vq, Value.ownBlock]
/-- A row of R has grown. -/
theorem OX.grew {W w w1 : World} {R : List Nat} {g gv : Nat} {s : Bst} {v : Value} (h : OX W R g s w) (hv : ∀ k, v.ownBlock = some k → k ∈ R ∧ W.heap.size ≤ k) (hg : w.grownBy w1 v.ownBlock) (hat : v.ownBlock = some gv ∨ gv = w.heap.size) (hlt : gv < w1.heap.size) : OX W (gv :: R) g s w1 := by
  refine h.grown hg hv (fun r hr => ?_)
  simp at hr
  rcases hr with rfl | hr
  · refine ⟨hlt, ?_⟩
    rcases hat with h1 | h1
    · exact .inl (hv _ h1).1
    · exact .inr (by omega)
  · exact ⟨Nat.lt_of_lt_of_le (h.2.1 r hr) hg.size, .inl hr⟩
theorem OX.few {W w : World} {R R' : List Nat} {g : Nat} {s : Bst} (h : OX W R g s w) (hR : ∀ r ∈ R', r ∈ R) : OX W R' g s w := h.more (Below.refl _ _) (fun r hr => ⟨h.2.1 r (hR r hr), .inl (hR r hr)⟩)
def apart (a b : Value) : Prop := ∀ i, a.ownBlock = some i → b.ownBlock ≠ some i
theorem apart.symm {a b : Value} (h : apart a b) : apart b a := fun i hb ha => h i ha hb
theorem apart_nil (a : Value) : apart a (.slice none 0 0) := fun _ _ h => by cases h
theorem apart.kept {a b : Value} (h : apart a b) : a.ownBlock = none ∨ a.ownBlock ≠ b.ownBlock := by
  cases ha : a.ownBlock with
  | none => exact .inl rfl
  | some i => exact .inr (fun e => h i ha e.symm)
theorem apart.new {w : World} {a b : Value} {gv n c : Nat} (h : apart a b) (ha : ∀ i, a.ownBlock = some i → i < w.heap.size) (hat : b.ownBlock = some gv ∨ gv = w.heap.size) : apart a (.slice (some ⟨gv, 0, none⟩) n c) := fun i hi e => by
  have e2 : gv = i := by simpa [Value.ownBlock] using e
  subst e2
  rcases hat with h1 | h1
  · exact h _ hi h1
  · have := ha _ hi; omega
/-- What came, the barriers ahead of each, what went: beside the buffer. -/
structure OO (W : World) (g : Nat) (s : Bst) (v6 : Value) (l6 : List Wr) (v8 : Value) (l8 : List Int) (v7 : Value) (l7 : List Wr) (X : List Nat) (w : World) : Prop where
  ox : OX W (vq v6 ++ (vq v8 ++ (vq v7 ++ X))) g s w
  r6 : w.ownsRow W.heap.size 34 4 v6 l6.length (cellsW l6)
  r8 : w.ownsRow W.heap.size 3 1 v8 l8.length (cellsI l8)
  r7 : w.ownsRow W.heap.size 34 4 v7 l7.length (cellsW l7)
  n68 : apart v6 v8
  n67 : apart v6 v7
  n87 : apart v8 v7
section
variable {W w w' : World} {g : Nat} {s s' : Bst} {v6 v8 v7 : Value} {l6 l7 : List Wr} {l8 : List Int} {X : List Nat}
theorem OO.on (h : OO W g s v6 l6 v8 l8 v7 l7 X w) (k : BW w w') : OO W g s v6 l6 v8 l8 v7 l7 X w' :=
  ⟨h.ox.on k, (Fr.of [] k).row h.r6 (by simp), (Fr.of [] k).row h.r8 (by simp), (Fr.of [] k).row h.r7 (by simp), h.n68, h.n67, h.n87⟩
theorem OO.same (h : OO W g s v6 l6 v8 l8 v7 l7 X w) (k : OX W (vq v6 ++ (vq v8 ++ (vq v7 ++ X))) g s' w') (hs : Same (vq v6 ++ (vq v8 ++ (vq v7 ++ X))) w w') : OO W g s' v6 l6 v8 l8 v7 l7 X w' :=
  ⟨k, hs.row h.r6 (fun i hi => by simp [mem_vq.2 hi]), hs.row h.r8 (fun i hi => by simp [mem_vq.2 hi]), hs.row h.r7 (fun i hi => by simp [mem_vq.2 hi]), h.n68, h.n67, h.n87⟩
theorem OO.few {X' : List Nat} (h : OO W g s v6 l6 v8 l8 v7 l7 X w) (hX : ∀ r ∈ X', r ∈ X) : OO W g s v6 l6 v8 l8 v7 l7 X' w :=
  ⟨h.ox.few (by intro r hr; simp only [List.mem_append] at hr ⊢; rcases hr with hr | hr | hr | hr; exact .inl hr; exact .inr (.inl hr); exact .inr (.inr (.inl hr)); exact .inr (.inr (.inr (hX r hr)))), h.r6, h.r8, h.r7, h.n68, h.n67, h.n87⟩
theorem OO.bare (h : OO W g s v6 l6 v8 l8 v7 l7 X w) : OO W g s v6 l6 v8 l8 v7 l7 [] w := h.few (by simp)
/-- A new block is named. -/
theorem OO.boxed (h : OO W g s v6 l6 v8 l8 v7 l7 [] w) (k : BW w w') (hlt : w.heap.size < w'.heap.size) : OO W g s v6 l6 v8 l8 v7 l7 [w.heap.size] w' := by
  refine ⟨h.ox.more k (fun r hr => ?_), (Fr.of [] k).row h.r6 (by simp), (Fr.of [] k).row h.r8 (by simp), (Fr.of [] k).row h.r7 (by simp), h.n68, h.n67, h.n87⟩
  simp only [List.mem_append, List.mem_singleton] at hr
  rcases hr with hr | hr | hr | rfl
  · have := h.ox.2.1 r (by simp [hr]); exact ⟨by omega, .inl (by simp [hr])⟩
  · have := h.ox.2.1 r (by simp [hr]); exact ⟨by omega, .inl (by simp [hr])⟩
  · have := h.ox.2.1 r (by simp [hr]); exact ⟨by omega, .inl (by simp [hr])⟩
  · exact ⟨hlt, .inr (Nat.le_refl _)⟩
theorem OO.put (h : OO W g s v6 l6 v8 l8 v7 l7 X w) (x : Wr) (hb : x.addr ≤ 9223372036854775807) (h0 : 0 ≤ x.data) (h1 : x.data < 2 ^ 64) :
    Calls Try.prog 10 #[.pointer (some ⟨g, 0, none⟩), .agg #[.int .i64 x.id, .int .i64 x.addr, .int .i64 x.size, .int .u64 x.data]] w fun e w' => e = .returned (.bool (placeN s x).2) ∧ OO W g (putB s x) v6 l6 v8 l8 v7 l7 X w' ∧ Same (vq v6 ++ (vq v8 ++ (vq v7 ++ X))) w w' :=
  (h.ox.put x hb h0 h1).mono fun e w' ⟨he, k, hs⟩ => ⟨he, h.same k hs, hs⟩
theorem OO.bar (h : OO W g s v6 l6 v8 l8 v7 l7 X w) (hE : s.ep ≤ 1000000) :
    Calls Try.prog 12 #[.pointer (some ⟨g, 0, none⟩)] w fun e w' => e = .returned (.tuple #[]) ∧ OO W g (barB s) v6 l6 v8 l8 v7 l7 X w' :=
  (h.ox.bar hE).mono fun e w' ⟨he, k, hs⟩ => ⟨he, h.same k hs⟩
theorem OO.lt (h : OO W g s v6 l6 v8 l8 v7 l7 X w) : (∀ i, v6.ownBlock = some i → i < w.heap.size) ∧ (∀ i, v8.ownBlock = some i → i < w.heap.size) ∧ (∀ i, v7.ownBlock = some i → i < w.heap.size) := ⟨fun i hi => (h.r6.lt i hi).2, fun i hi => (h.r8.lt i hi).2, fun i hi => (h.r7.lt i hi).2⟩
theorem OO.app6 {w1 : World} {gv cv : Nat} {x : Wr} (h : OO W g s v6 l6 v8 l8 v7 l7 X w) (hg : w.grownBy w1 v6.ownBlock) (hat : v6.ownBlock = some gv ∨ gv = w.heap.size) (hlt : gv < w1.heap.size)
    (ho : w1.ownsRow W.heap.size 34 4 (.slice (some ⟨gv, 0, none⟩) (l6.length + 1) cv) (l6.length + 1) (cellsW l6 ++ (wrCells x).toList)) : OO W g s (.slice (some ⟨gv, 0, none⟩) (l6.length + 1) cv) (l6 ++ [x]) v8 l8 v7 l7 [] w1 := by
  refine ⟨(h.ox.grew (fun k hk => ⟨by simp [mem_vq.2 hk], (h.r6.lt k hk).1⟩) hg hat hlt).few (fun r hr => ?_), ?_, h.r8.kept hg h.n68.symm.kept, h.r7.kept hg h.n67.symm.kept, (h.n68.symm.new h.lt.2.1 hat).symm, (h.n67.symm.new h.lt.2.2 hat).symm, h.n87⟩
  · rw [vq_some] at hr
    simp only [List.mem_append, List.mem_cons, List.not_mem_nil, or_false] at hr ⊢
    rcases hr with hr | hr | hr
    · exact .inl hr
    · exact .inr (.inr (.inl hr))
    · exact .inr (.inr (.inr (.inl hr)))
  · rw [List.length_append, cellsW_append, cellsW_one]
    exact ho
theorem OO.app8 {w1 : World} {gv cv : Nat} {x : Int} (h : OO W g s v6 l6 v8 l8 v7 l7 X w) (hg : w.grownBy w1 v8.ownBlock) (hat : v8.ownBlock = some gv ∨ gv = w.heap.size) (hlt : gv < w1.heap.size)
    (ho : w1.ownsRow W.heap.size 3 1 (.slice (some ⟨gv, 0, none⟩) (l8.length + 1) cv) (l8.length + 1) (cellsI l8 ++ [.int .i64 x])) : OO W g s v6 l6 (.slice (some ⟨gv, 0, none⟩) (l8.length + 1) cv) (l8 ++ [x]) v7 l7 [] w1 := by
  refine ⟨(h.ox.grew (fun k hk => ⟨by simp [mem_vq.2 hk], (h.r8.lt k hk).1⟩) hg hat hlt).few (fun r hr => ?_), h.r6.kept hg h.n68.kept, ?_, h.r7.kept hg h.n87.symm.kept, h.n68.new h.lt.1 hat, h.n67, (h.n87.symm.new h.lt.2.2 hat).symm⟩
  · rw [vq_some] at hr
    simp only [List.mem_append, List.mem_cons, List.not_mem_nil, or_false] at hr ⊢
    rcases hr with hr | hr | hr
    · exact .inr (.inl hr)
    · exact .inl hr
    · exact .inr (.inr (.inr (.inl hr)))
  · have e : cellsI (l8 ++ [x]) = cellsI l8 ++ [.int .i64 x] := by simp [cellsI]
    rw [List.length_append, e]
    exact ho
theorem OO.app7 {w1 : World} {gv cv : Nat} {xs : List Wr} (h : OO W g s v6 l6 v8 l8 v7 l7 X w) (hg : w.grownBy w1 v7.ownBlock) (hat : v7.ownBlock = some gv ∨ gv = w.heap.size) (hlt : gv < w1.heap.size)
    (ho : w1.ownsRow W.heap.size 34 4 (.slice (some ⟨gv, 0, none⟩) (l7.length + xs.length) cv) (l7.length + xs.length) (cellsW l7 ++ cellsW xs)) : OO W g s v6 l6 v8 l8 (.slice (some ⟨gv, 0, none⟩) (l7.length + xs.length) cv) (l7 ++ xs) [] w1 := by
  refine ⟨(h.ox.grew (fun k hk => ⟨by simp [mem_vq.2 hk], (h.r7.lt k hk).1⟩) hg hat hlt).few (fun r hr => ?_), h.r6.kept hg h.n67.kept, h.r8.kept hg h.n87.kept, ?_, h.n68, h.n67.new h.lt.1 hat, h.n87.new h.lt.2.1 hat⟩
  · rw [vq_some] at hr
    simp only [List.mem_append, List.mem_cons, List.not_mem_nil, or_false] at hr ⊢
    rcases hr with hr | hr | hr
    · exact .inr (.inl hr)
    · exact .inr (.inr (.inl hr))
    · exact .inl hr
  · rw [List.length_append, cellsW_append]
    exact ho
end
theorem own_wr {w : World} {base n : Nat} {v : Value} {l : List Wr} (h : w.ownsRow base 34 4 v n (cellsW l)) {j : Nat} (hj : j < l.length) (hn : l.length = n) : ∃ g cap, v = .slice (some ⟨g, 0, none⟩) n cap := by
  obtain ⟨g, cap, e, _⟩ := h.form (by omega)
  exact ⟨g, cap, e⟩
theorem own_int {w : World} {base g n cap : Nat} {l : List Int} (h : w.ownsRow base 3 1 (.slice (some ⟨g, 0, none⟩) n cap) n (cellsI l)) {j : Nat} (hj : j < l.length) : w.cell? ⟨g, j, none⟩ = some (.int .i64 l[j]) := by
  have := h.cells (g := g) rfl j (.int .i64 l[j]) (by unfold cellsI; rw [List.getElem?_map, List.getElem?_eq_getElem hj]; rfl)
  rwa [show (⟨g, 0, none⟩ : Addr).add j = ⟨g, j, none⟩ by unfold Addr.add; split <;> simp_all] at this
theorem own_news {w : World} {base g n cap z : Nat} {e : TypeId} {xs : List Value} (h : w.ownsRow base e z (.slice (some ⟨g, 0, none⟩) n cap) n xs) : ∀ j u, xs[j]? = some u → w.cell? ((⟨g, 0, none⟩ : Addr).add j) = some u := fun j u hu => h.cells (g := g) rfl j u hu
theorem cellsW_n4 (l : List Wr) : (cellsW l).length = l.length * 4 := flat_len (fun x => (wrCells x).toList) 4 (fun _ => rfl) l
theorem cellsW_cell1 (l : List Wr) : ∀ u ∈ cellsW l, u.oneCell' = true := fun u hu => by
  unfold cellsW at hu
  obtain ⟨x, _, hx⟩ := List.mem_flatMap.1 hu
  simp [wrCells] at hx
  rcases hx with rfl | rfl | rfl | rfl <;> rfl
theorem putB_not {s : Bst} {x : Wr} (h : (placeN s x).2 = false) : putB s x = s := by unfold putB; rw [if_neg (by rw [h]; decide)]
/-- How many are drained, how many are left. -/
theorem DO.most {s : Bst} {D : List Ep} {Z : List Zt} (h : DO s D Z) : D.length ≤ Z.length := by
  have := h.perm.length_eq
  rw [List.length_append, List.length_map] at this
  omega
theorem DO.all {s : Bst} {D : List Ep} {Z : List Zt} (h : DO s D Z) (hn : s.es.length = 0) : D.length = Z.length := by
  have := h.perm.length_eq
  rw [List.length_append, List.length_map, List.eq_nil_of_length_eq_zero hn] at this
  simpa [flatQ] using this
theorem ends6 {t s0 : Bst} {D : List Ep} {Z : List Zt} {nb k : Int} {l6 l7 : List Wr} {l8 : List Int} (h : DO t D Z) (h0 : PO s0 Z nb k) (hn : t.es.length = 0) (e6 : l6 = Z.map Zt.x) (e8 : l8 = Z.map Zt.age) (e7 : l7 = D.map Prod.fst) {i j : Nat} (hij : i < j) (hi : i < l6.length) (hj : j < l6.length) (hi8 : i < l8.length) (hj8 : j < l8.length)
    (hm : ovl l6[i].addr l6[i].size l6[j].addr l6[j].size = true ∨ l8[i] ≠ l8[j]) :
    0 ≤ lastI l6[i].id (l7.map Wr.id) l7.length ∧ 0 ≤ lastI l6[j].id (l7.map Wr.id) l7.length ∧ lastI l6[i].id (l7.map Wr.id) l7.length ≤ lastI l6[j].id (l7.map Wr.id) l7.length := by
  subst e6 e8 e7
  have hjZ : j < Z.length := by simpa using hj
  have e : (D.map Prod.fst).map Wr.id = D.map fun p => p.1.id := by rw [List.map_map]; rfl
  rw [e, List.length_map]
  simp only [List.getElem_map] at hm ⊢
  exact h.ends h0 hn hij hjZ hm
theorem ids_at {l7 : List Wr} {j : Nat} (hj : j < l7.length) : (l7.map Wr.id).getD j 0 = l7[j].id := by
  rw [List.getD_eq_getElem?_getD, List.getElem?_map, List.getElem?_eq_getElem hj]; rfl
theorem lastI_hit {i : Int} {l : List Int} {j : Nat} {z : Int} (hz : l.getD j 0 = z) (h : z = i) : lastI i l (j + 1) = (j : Int) := by unfold lastI; rw [if_pos (hz.trans h)]
theorem lastI_miss {i : Int} {l : List Int} {j : Nat} {z : Int} (hz : l.getD j 0 = z) (h : ¬ z = i) : lastI i l (j + 1) = lastI i l j := by
  conv => lhs; unfold lastI
  rw [if_neg (by rw [hz]; exact h)]
theorem must_of {O : Bool} {a b : Int} (h : (!O && decide (a = b)) = false) : O = true ∨ a ≠ b := by
  cases O with
  | true => exact .inl rfl
  | false => right; simpa using h
theorem dra_less {s : Bst} {q : Int} (hg : mayGo s q = true) : (draB s q).es.length + 1 = s.es.length := by
  have hg2 := hg
  unfold mayGo at hg2
  simp only [Bool.and_eq_true, decide_eq_true_eq] at hg2
  unfold draB
  rw [if_pos hg]
  show (s.es.eraseIdx q.toNat).length + 1 = _
  rw [List.length_eraseIdx]
  split <;> omega

set_option maxHeartbeats 16000000 in
theorem order_walk (A : Option Addr) (cap : Nat) (l : List At) (B : Option Addr) (bap : Nat) (ps : List Int) (W : World) (hcap : l.length ≤ 9223372036854775807) (hbap : ps.length ≤ 9223372036854775807) (hws : Wats l) (hwp : ∀ z ∈ ps, 0 ≤ z ∧ z < 256) (hr : Rd W W.heap.size A (cellsA l)) (hrp : Rd W W.heap.size B (ps.map (Value.int .u8))) :
    Calls Try.prog 5 #[.slice A l.length cap, .slice B ps.length bap] W fun e w' => e = .returned (.bool true) ∧ BW W w' := by
  have HAL := Lib.hid (fun w => alive13_any w)
  have HRI := Lib.hid hr
  have HRP := Lib.hid (show Rd W W.heap.size B (cellsB ps) from hrp)
  have HW := Lib.hid hws
  have HWP := Lib.hid hwp
  obtain ⟨iw, hiw, hwz, hwS, hwb⟩ := inf_parts (P := Try.prog) (e := 34) (z := .agg #[.int .i64 0, .int .i64 0, .int .i64 0, .int .u64 0]) (n := 4) (b := 32) (by kernel_rfl)
  obtain ⟨ii, hii, hiz, hiS, hib⟩ := inf_parts (P := Try.prog) (e := 3) (z := .int .i64 0) (n := 1) (b := 8) (by kernel_rfl)
  clear hr hws hrp hwp
  go_enter Try.func5, Try.ntmps5
  go_wp2_with (first
    | (go_at_call 8; refine (HAL.out _).mono ?_; rintro e w1 ⟨rfl, hb⟩; have HX0 := Lib.hid (OX.new (R := []) hb (by simp)); clear hb))
  obtain ⟨g, hg⟩ : ∃ g, w1.heap.size = g := ⟨_, rfl⟩
  rw [hg] at HX0 ⊢
  obtain ⟨w2, hw2⟩ : ∃ w2, w1.alloc (.cells #[.slice none 0 0, .int .i64 0] 27) = w2 := ⟨_, rfl⟩
  rw [hw2] at HX0 ⊢
  clear hw2 hg
  go_loopw [6, 8, 9, 10] (fun v6 v8 v9 i wx => ∃ (k nb : Nat) (l6 : List Wr) (l8 : List Int) (Z : List Zt) (s : Bst), k ≤ l.length ∧ k ≤ 60 ∧ i = .int .i64 (k : Int) ∧ v9 = .int .i64 (nb : Int) ∧ nb ≤ k ∧ Hid (PO s Z nb k) ∧ Hid (l6 = Z.map Zt.x) ∧ Hid (l8 = Z.map Zt.age) ∧ l6.length ≤ k ∧ l8.length ≤ k ∧ s.ep ≤ k ∧ Hid (OO W g s v6 l6 v8 l8 (.slice none 0 0) [] [] wx)) (fun _ _ _ i _ => 60 - (intOf i).toNat)
  case atStart => exact ⟨0, 0, [], [], [], ⟨[], 0⟩, by omega, by omega, rfl, rfl, by omega, Lib.hid PO.start, Lib.hid rfl, Lib.hid rfl, by simp, by simp, by simp, Lib.hid ⟨by simpa [vq, Value.ownBlock] using HX0.out, World.ownsRow_nil _ _ _ _, World.ownsRow_nil _ _ _ _, World.ownsRow_nil _ _ _ _, apart_nil _, apart_nil _, apart_nil _⟩⟩
  case round =>
    obtain ⟨k, nb, l6, l8, Z, s, hk1, hk2, rfl, rfl, hnb, HPO, H6, H8, h6k, h8k, hek, HOO⟩ := hrel
    clear HX0
    by_cases hc : k < l.length ∧ k < 60
    · obtain ⟨hc1, hc2⟩ := hc
      have hc1' : (k : Int) < (l.length : Int) := by omega
      have hc2' : (k : Int) < 60 := by omega
      obtain ⟨b, off, hB, hbl, hcell⟩ := at_cell HRI.out (by omega)
      subst hB
      have hat := hcell k hc1
      have hwk := HW.out _ (List.getElem_mem hc1)
      obtain ⟨⟨kd, ⟨i, a, z, d⟩⟩, hx⟩ : ∃ x, l[k] = x := ⟨_, rfl⟩
      rw [hx] at hat hwk
      dsimp only at hat hwk
      clear hcell hx
      have hE : s.ep ≤ 1000000 := by omega
      have HBL := HOO.out.ox.low
      obtain ⟨a0, a1, a2, a3, a4⟩ := hat
      have c0 := (Below.cell HBL (p := ⟨b, off + k * 5, none⟩) hbl).trans a0
      have c1 := (Below.cell HBL (p := ⟨b, off + k * 5 + 1, none⟩) hbl).trans a1
      have c2 := (Below.cell HBL (p := ⟨b, off + k * 5 + 2, none⟩) hbl).trans a2
      have c3 := (Below.cell HBL (p := ⟨b, off + k * 5 + 3, none⟩) hbl).trans a3
      have c4 := (Below.cell HBL (p := ⟨b, off + k * 5 + 4, none⟩) hbl).trans a4
      clear a0 a1 a2 a3 a4
      obtain ⟨A6, cp6, hv6⟩ := own_shape HOO.out.r6
      subst hv6
      obtain ⟨A8, cp8, hv8⟩ := own_shape HOO.out.r8
      subst hv8
      have hbr : b < wr.heap.size := by have := Below.size HBL; omega
      have HFB := Lib.hid (HOO.out.boxed (BW.new (Below.refl wr.heap.size wr) (.cells #[.int .i64 k, .int .i64 a, .int .i64 z, .int .u64 d] 34)) (by rw [World.size_alloc]; omega))
      have HBX := Lib.hid (Blk.new #[.int .i64 k, .int .i64 a, .int .i64 z, .int .u64 d] 34 wr)
      have d0 := cell_old c0 (.cells #[.int .i64 k, .int .i64 a, .int .i64 z, .int .u64 d] 34)
      go_upto_region 12 with (fail)
      clear HOO HBL c0 c1 c2 c3 c4
      obtain ⟨Bx, hBx⟩ : ∃ Bx, wr.heap.size = Bx := ⟨_, rfl⟩
      rw [hBx] at HFB HBX hbr ⊢
      obtain ⟨w5, hw5⟩ : ∃ w5, wr.alloc (.cells #[.int .i64 k, .int .i64 a, .int .i64 z, .int .u64 d] 34) = w5 := ⟨_, rfl⟩
      rw [hw5] at HFB HBX d0 ⊢
      clear hw5 hBx
      have HPUT := Lib.hid (fun X (hX : OO W g s (.slice A6 l6.length cp6) l6 (.slice A8 l8.length cp8) l8 (.slice none 0 0) [] [Bx] X) => hX.put ⟨k, a, z, d⟩ hwk.w.addr.2 hwk.w.data.1 hwk.w.data.2)
      have HBAR := Lib.hid (fun X (hX : OO W g s (.slice A6 l6.length cp6) l6 (.slice A8 l8.length cp8) l8 (.slice none 0 0) [] [Bx] X) => hX.bar hE)
      have g0 : w5.cell? ⟨Bx, 0, none⟩ = some (.int .i64 k) := HBX.out.cell 0
      have g1 : w5.cell? ⟨Bx, 1, none⟩ = some (.int .i64 a) := HBX.out.cell 1
      have g2 : w5.cell? ⟨Bx, 2, none⟩ = some (.int .i64 z) := HBX.out.cell 2
      have g3 : w5.cell? ⟨Bx, 3, none⟩ = some (.int .u64 d) := HBX.out.cell 3
      by_cases hkd : kd = 1
      · subst hkd
        have HP1 := Lib.hid (show PO (barB s) Z ((nb + 1 : Nat) : Int) ((k + 1 : Nat) : Int) by have := HPO.out.bar; push_cast; exact this)
        have hpe := (barB_ep s).1
        have hnI : (nb : Int) ≤ 60 := by omega
        clear HPUT g0 g1 g2 g3
        go_wp2_with (first
          | (go_at_call 12; refine (HBAR.out _ HFB.out).mono ?_; rintro e w6 ⟨rfl, hfo⟩; have HF6 := Lib.hid hfo.bare; clear hfo))
        go_roundw
        case rel => exact ⟨k + 1, nb + 1, l6, l8, Z, _, by omega, by omega, by go_num, by go_num, by omega, HP1, H6, H8, by omega, by omega, by push_cast; omega, HF6⟩
        case measure => simp [intOf]; omega
      · have hkb : (kd == 1) = false := by simp [hkd]
        have hpe := putB_ep s ⟨k, a, z, d⟩
        cases hok : (placeN s ⟨k, a, z, d⟩).2 with
        | false =>
          rw [hok] at HPUT
          have HP1 := Lib.hid (show PO (putB s ⟨k, a, z, d⟩) Z nb ((k + 1 : Nat) : Int) by rw [putB_not hok]; have := HPO.out.skip; push_cast; exact this)
          clear hok
          go_wp2_with (first
            | (go_at_call 10; refine (HPUT.out _ HFB.out).mono ?_; rintro e w6 ⟨rfl, hfo, _⟩; have HF6 := Lib.hid hfo.bare; clear hfo))
          go_roundw
          case rel => exact ⟨k + 1, nb, l6, l8, Z, _, by omega, by omega, by go_num, rfl, by omega, HP1, H6, H8, by omega, by omega, by rw [hpe]; push_cast; omega, HF6⟩
          case measure => simp [intOf]; omega
        | true =>
          have HP1 := Lib.hid (show PO (putB s ⟨k, a, z, d⟩) (Z ++ [⟨⟨k, a, z, d⟩, nb, s.ep⟩]) nb ((k + 1 : Nat) : Int) by have := HPO.out.put (x := ⟨k, a, z, d⟩) rfl hwk.w.data.1 hwk.w.data.2 hok; push_cast; exact this)
          rw [hok] at HPUT
          clear hok
          go_wp2_with (first
            | (go_at_call 10; refine (HPUT.out _ HFB.out).mono ?_; rintro e w6 ⟨rfl, hfo, hsm⟩; have HF6 := Lib.hid hfo; have hb6 := hsm.blk HBX.out (by simp); have f0 : w6.cell? ⟨Bx, 0, none⟩ = some (.int .i64 k) := hb6.cell 0; have f1 : w6.cell? ⟨Bx, 1, none⟩ = some (.int .i64 a) := hb6.cell 1; have f2 : w6.cell? ⟨Bx, 2, none⟩ = some (.int .i64 z) := hb6.cell 2; have f3 : w6.cell? ⟨Bx, 3, none⟩ = some (.int .u64 d) := hb6.cell 3; have HF7 := Lib.hid (HF6.out.on (BW.new (Below.refl w6.heap.size w6) (.cells #[.int .i64 k, .int .i64 a, .int .i64 z, .int .u64 d] 34))); have hnew : (w6.alloc (.cells #[.int .i64 k, .int .i64 a, .int .i64 z, .int .u64 d] 34)).heap[w6.heap.size]? = some (.cells (wrCells ⟨k, a, z, d⟩) 34 (0, 0)) := Blk.new _ _ _; clear hfo hsm hb6)
            | (at_builtin; refine wpList_append_lies _ rfl _ _ 39 rfl W.heap.size 34 iw _ 4 32 Try.underlying39 hiw hwz hwS hwb rfl (by decide) _ l6.length (cellsW l6) rfl HF7.out.r6 ⟨w6.heap.size, 0, none⟩ 1 1 (wrCells ⟨k, a, z, d⟩).toList rfl rfl (World.news_of_block hnew) (by intro u hu; simp [wrCells] at hu; rcases hu with rfl | rfl | rfl | rfl <;> rfl) (by decide) (by unfold maxLen; omega) (by omega) (Below.size HF7.out.ox.low) _ rfl ?_; intro gv cv w8 ho8 hg8 hat8 hlt8; have HF8 := Lib.hid (HF7.out.app6 hg8 hat8 hlt8 ho8); have HF9 := Lib.hid (HF8.out.on (BW.new (Below.refl w8.heap.size w8) (.cells #[.int .i64 nb] 3))); have hnew8 : (w8.alloc (.cells #[.int .i64 nb] 3)).heap[w8.heap.size]? = some (.cells #[.int .i64 nb] 3 (0, 0)) := Blk.new _ _ _; clear ho8 hg8 hat8 hlt8 hnew)
            | (at_builtin; refine wpList_append_lies _ rfl _ _ 46 rfl W.heap.size 3 ii _ 1 8 Try.underlying46 hii hiz hiS hib rfl (by decide) _ l8.length (cellsI l8) rfl HF9.out.r8 ⟨w8.heap.size, 0, none⟩ 1 1 [.int .i64 nb] rfl rfl (World.news_of_block hnew8) (by intro u hu; simp at hu; subst hu; rfl) (by decide) (by unfold maxLen; omega) (by omega) (Below.size HF9.out.ox.low) _ rfl ?_; intro gu cu w10 ho10 hg10 hat10 hlt10; have HF10 := Lib.hid (HF9.out.app8 hg10 hat10 hlt10 ho10); clear ho10 hg10 hat10 hlt10 hnew8))
          go_roundw
          case rel => exact ⟨k + 1, nb, l6 ++ [⟨k, a, z, d⟩], l8 ++ [(nb : Int)], Z ++ [⟨⟨k, a, z, d⟩, nb, s.ep⟩], putB s ⟨k, a, z, d⟩, by omega, by omega, by go_num, rfl, by omega, HP1, Lib.hid (by rw [H6.out, List.map_append]; rfl), Lib.hid (by rw [H8.out, List.map_append]; rfl), by rw [List.length_append]; show l6.length + 1 ≤ _; omega, by rw [List.length_append]; show l8.length + 1 ≤ _; omega, by rw [hpe]; push_cast; omega, HF10⟩
          case measure => simp [intOf]; omega
    · clear HW
      obtain ⟨A6, cp6, hv6⟩ := own_shape HOO.out.r6
      subst hv6
      obtain ⟨A8, cp8, hv8⟩ := own_shape HOO.out.r8
      subst hv8
      rcases (show (k < l.length ∧ ¬ k < 60) ∨ ¬ k < l.length by omega) with ⟨h1, h2⟩ | h1
      · have hc1' : (k : Int) < (l.length : Int) := by omega
        have hc2' : ¬ (k : Int) < 60 := by omega
        have HDN0 := Lib.hid HPO.out.drain
        have hes4 := HPO.out.ok.len
        have h8Z : l8.length = l6.length := by rw [H8.out, H6.out, List.length_map, List.length_map]
        have h6Z : Z.length = l6.length := by rw [H6.out, List.length_map]
        go_wp2
        go_loopw [7, 12] (fun v7 v wx => ∃ (n : Nat) (D : List Ep) (l7 : List Wr) (t : Bst), n ≤ 4 ∧ v = .int .i64 (n : Int) ∧ Hid (DO t D Z) ∧ t.es.length + n ≤ 4 ∧ Hid (l7 = D.map Prod.fst) ∧ Hid (OO W g t (.slice A6 l6.length cp6) l6 (.slice A8 l8.length cp8) l8 v7 l7 [] wx)) (fun _ v _ => 60 - (intOf v).toNat)
        case atStart => exact ⟨0, [], [], s, by omega, rfl, HDN0, by omega, Lib.hid rfl, HOO⟩
        case round =>
          obtain ⟨n, D, l7, t, hn4, rfl, HDO, htn, H7, HOD⟩ := hrel
          clear HOO HDN0
          obtain ⟨A7, cp7, hv7⟩ := own_shape HOD.out.r7
          subst hv7
          have h7Z : l7.length ≤ l6.length := by rw [H7.out, ← h6Z, List.length_map]; exact HDO.out.most
          have hn60 : (n : Int) < 60 := by omega
          have HEM := Lib.hid (HOD.out.ox.empty)
          by_cases he : t.es.length = 0
          · rw [decide_eq_true he] at HEM
            have h76 : l7.length = l6.length := by rw [H7.out, ← h6Z, List.length_map]; exact HDO.out.all he
            rw [h76, h8Z] at HOD
            rw [h76, h8Z]
            have HENDS := Lib.hid (fun (i j : Nat) (hij : i < j) (hi : i < l6.length) (hj : j < l6.length) => ends6 HDO.out HPO.out he H6.out H8.out H7.out hij hi hj (by rw [h8Z]; exact hi) (by rw [h8Z]; exact hj))
            rw [h76] at HENDS
            have HIDS := Lib.hid (fun (j : Nat) (hj : j < l7.length) => ids_at hj)
            obtain ⟨ids, hids⟩ : ∃ ids, l7.map Wr.id = ids := ⟨_, rfl⟩
            rw [hids] at HENDS HIDS
            clear hids
            go_wp2_with (first
              | (go_at_call 24; refine HEM.out.mono ?_; rintro e w7 ⟨rfl, rfl⟩))
            clear HEM HPO HDO
            go_loopw [15] (fun v wx => ∃ i : Nat, i ≤ l6.length ∧ v = .int .i64 (i : Int) ∧ Hid (OO W g t (.slice A6 l6.length cp6) l6 (.slice A8 l6.length cp8) l8 (.slice A7 l6.length cp7) l7 [] wx)) (fun v _ => l6.length - (intOf v).toNat)
            case atStart => exact ⟨0, by omega, rfl, HOD⟩
            case round =>
              obtain ⟨i, hi, rfl, HOI⟩ := hrel
              clear HOD
              by_cases hi1 : i < l6.length
              · have hiI : (i : Int) < (l6.length : Int) := by omega
                obtain ⟨g6, cq6, hA6⟩ := own_wr HOI.out.r6 hi1 rfl
                cases hA6
                obtain ⟨g7, cq7, hA7⟩ := own_wr HOI.out.r7 (show 0 < l7.length by omega) rfl
                rw [h76] at hA7
                cases hA7
                obtain ⟨g8, cq8, hA8, _, _⟩ := HOI.out.r8.form (show 0 < l8.length by omega)
                rw [h8Z] at hA8
                cases hA8
                have hi60 : (i : Int) < 60 := by omega
                go_wp2
                go_loopw [16] (fun v wx => ∃ j : Nat, i < j ∧ j ≤ l6.length ∧ v = .int .i64 (j : Int) ∧ Hid (OO W g t (.slice (some ⟨g6, 0, none⟩) l6.length cp6) l6 (.slice (some ⟨g8, 0, none⟩) l6.length cp8) l8 (.slice (some ⟨g7, 0, none⟩) l6.length cp7) l7 [] wx)) (fun v _ => l6.length - (intOf v).toNat)
                case atStart => exact ⟨i + 1, by omega, by omega, by go_num, HOI⟩
                case round =>
                  obtain ⟨j, hij, hj, rfl, HOJ⟩ := hrel
                  clear HOI
                  by_cases hj1 : j < l6.length
                  · have hjI : (j : Int) < (l6.length : Int) := by omega
                    have HE := Lib.hid (HENDS.out i j hij hi1 hj1)
                    have HX := Lib.hid (fun (X : World) (hX : OO W g t (.slice (some ⟨g6, 0, none⟩) l6.length cp6) l6 (.slice (some ⟨g8, 0, none⟩) l6.length cp8) l8 (.slice (some ⟨g7, 0, none⟩) l6.length cp7) l7 [] X) => own_cell hX.r6 hi1)
                    have HY := Lib.hid (fun (X : World) (hX : OO W g t (.slice (some ⟨g6, 0, none⟩) l6.length cp6) l6 (.slice (some ⟨g8, 0, none⟩) l6.length cp8) l8 (.slice (some ⟨g7, 0, none⟩) l6.length cp7) l7 [] X) => own_cell hX.r6 hj1)
                    have HA := Lib.hid (fun (X : World) (hX : OO W g t (.slice (some ⟨g6, 0, none⟩) l6.length cp6) l6 (.slice (some ⟨g8, 0, none⟩) l6.length cp8) l8 (.slice (some ⟨g7, 0, none⟩) l6.length cp7) l7 [] X) => own_int (show X.ownsRow W.heap.size 3 1 (.slice (some ⟨g8, 0, none⟩) l6.length cp8) l6.length (cellsI l8) from by have := hX.r8; rw [h8Z] at this; exact this) (j := i) (by rw [h8Z]; exact hi1))
                    have HB := Lib.hid (fun (X : World) (hX : OO W g t (.slice (some ⟨g6, 0, none⟩) l6.length cp6) l6 (.slice (some ⟨g8, 0, none⟩) l6.length cp8) l8 (.slice (some ⟨g7, 0, none⟩) l6.length cp7) l7 [] X) => own_int (show X.ownsRow W.heap.size 3 1 (.slice (some ⟨g8, 0, none⟩) l6.length cp8) l6.length (cellsI l8) from by have := hX.r8; rw [h8Z] at this; exact this) (j := j) (by rw [h8Z]; exact hj1))
                    obtain ⟨⟨xi, xa, xz, xd⟩, hx⟩ : ∃ x, l6[i] = x := ⟨_, rfl⟩
                    obtain ⟨⟨yi, ya, yz, yd⟩, hy⟩ : ∃ y, l6[j] = y := ⟨_, rfl⟩
                    obtain ⟨a1, ha1⟩ : ∃ a, l8[i] = a := ⟨_, rfl⟩
                    obtain ⟨a2, ha2⟩ : ∃ a, l8[j] = a := ⟨_, rfl⟩
                    rw [hx, hy, ha1, ha2] at HE
                    rw [hx] at HX
                    rw [hy] at HY
                    rw [ha1] at HA
                    rw [ha2] at HB
                    dsimp only at HE HX HY
                    clear hx hy ha1 ha2
                    have HOV := Lib.hid (roverlap_any xa xz ya yz)
                    obtain ⟨O, hO⟩ : ∃ O, ovl xa xz ya yz = O := ⟨_, rfl⟩
                    rw [hO] at HOV HE
                    clear hO
                    go_upto_region 36 with (fail)
                    go_cut [147] from 115 to 146 (fun sv wx => Hid (OO W g t (.slice (some ⟨g6, 0, none⟩) l6.length cp6) l6 (.slice (some ⟨g8, 0, none⟩) l6.length cp8) l8 (.slice (some ⟨g7, 0, none⟩) l6.length cp7) l7 [] wx) ∧ sv = .bool (!O && decide (a1 = a2)))
                    case first =>
                      obtain ⟨x0, x1, x2, x3⟩ := HX.out _ HOJ.out
                      obtain ⟨y0, y1, y2, y3⟩ := HY.out _ HOJ.out
                      have b1 := HA.out _ HOJ.out
                      have b2 := HB.out _ HOJ.out
                      have HQ := Lib.hid (fun n => HOJ.out.on (below_drewN' (Below.refl wr.heap.size wr) n))
                      cases O with
                      | true =>
                        go_quiet (first | (go_at_call 26; refine Calls.quiet_of_same ((HOV.out _).mono fun _ _ h => ⟨h.1, h.2.symm⟩)))
                        go_wp2
                        go_meet
                        case rel => exact ⟨HQ.out _, rfl⟩
                      | false =>
                        by_cases hab : a1 = a2
                        · have hb3 : (a1 == a2) = true := by simp [hab]
                          go_quiet (first | (go_at_call 26; refine Calls.quiet_of_same ((HOV.out _).mono fun _ _ h => ⟨h.1, h.2.symm⟩)))
                          go_wp2
                          go_meet
                          case rel => exact ⟨HQ.out _, by simp [hab]⟩
                        · have hb3 : (a1 == a2) = false := by simp [hab]
                          go_quiet (first | (go_at_call 26; refine Calls.quiet_of_same ((HOV.out _).mono fun _ _ h => ⟨h.1, h.2.symm⟩)))
                          go_wp2
                          go_meet
                          case rel => exact ⟨HQ.out _, by simp [hab]⟩
                    case rest =>
                      obtain ⟨HOJ2, rfl⟩ := hcut
                      clear HOJ
                      cases hG : (!O && decide (a1 = a2)) with
                      | true =>
                        go_wp2
                        go_roundw
                        case rel => exact ⟨j + 1, by omega, by omega, by go_num, HOJ2⟩
                        case measure => simp [intOf]; omega
                      | false =>
                        have hends := HE.out (must_of hG)
                        have HEE := Lib.hid hends
                        clear hends hG HE HENDS HA HB HOV
                        go_wp2
                        go_loopw [17, 18, 19] (fun v17 v18 v19 wx => ∃ q : Nat, q ≤ l6.length ∧ v19 = .int .i64 (q : Int) ∧ v17 = .int .i64 (lastI xi ids q) ∧ v18 = .int .i64 (lastI yi ids q) ∧ Hid (OO W g t (.slice (some ⟨g6, 0, none⟩) l6.length cp6) l6 (.slice (some ⟨g8, 0, none⟩) l6.length cp8) l8 (.slice (some ⟨g7, 0, none⟩) l6.length cp7) l7 [] wx)) (fun _ _ v19 _ => l6.length - (intOf v19).toNat)
                        case atStart => exact ⟨0, by omega, rfl, rfl, rfl, HOJ2⟩
                        case round =>
                          obtain ⟨q, hq, rfl, rfl, rfl, HOQ⟩ := hrel
                          clear HOJ2
                          by_cases hq1 : q < l6.length
                          · have hqI : (q : Int) < (l6.length : Int) := by omega
                            have hq7 : q < l7.length := by omega
                            obtain ⟨x0, _, _, _⟩ := HX.out _ HOQ.out
                            obtain ⟨y0, _, _, _⟩ := HY.out _ HOQ.out
                            obtain ⟨z0, _, _, _⟩ := own_cell (show wr.ownsRow W.heap.size 34 4 (.slice (some ⟨g7, 0, none⟩) l6.length cp7) l6.length (cellsW l7) from by have := HOQ.out.r7; rw [h76] at this; exact this) hq7
                            have hid := HIDS.out q hq7
                            obtain ⟨z, hz⟩ : ∃ z, l7[q].id = z := ⟨_, rfl⟩
                            rw [hz] at z0 hid
                            clear hz
                            have HID := Lib.hid hid
                            clear hid
                            obtain ⟨P1, hP1⟩ : ∃ P1, lastI xi ids q = P1 := ⟨_, rfl⟩
                            obtain ⟨P2, hP2⟩ : ∃ P2, lastI yi ids q = P2 := ⟨_, rfl⟩
                            rw [hP1, hP2]
                            by_cases h1 : z = xi
                            · have hb1 : (z == xi) = true := by simp [h1]
                              have HL1 := Lib.hid (lastI_hit HID.out h1)
                              by_cases h2 : z = yi
                              · have hb2 : (z == yi) = true := by simp [h2]
                                have HL2 := Lib.hid (lastI_hit HID.out h2)
                                clear hP1 hP2 h1 h2
                                go_wp2
                                go_quiet (fail)
                                go_wp2
                                go_quiet (fail)
                                go_wp2
                                go_roundw
                                case rel => exact ⟨q + 1, by omega, by go_num, by rw [HL1.out], by rw [HL2.out], Lib.hid (HOQ.out.on (below_drewN' (Below.refl _ _) _))⟩
                                case measure => simp [intOf]; omega
                              · have hb2 : (z == yi) = false := by simp [h2]
                                have HL2 := Lib.hid ((lastI_miss HID.out h2).trans hP2)
                                clear hP1 hP2 h1 h2
                                go_wp2
                                go_quiet (fail)
                                go_wp2
                                go_quiet (fail)
                                go_wp2
                                go_roundw
                                case rel => exact ⟨q + 1, by omega, by go_num, by rw [HL1.out], by rw [HL2.out], Lib.hid (HOQ.out.on (below_drewN' (Below.refl _ _) _))⟩
                                case measure => simp [intOf]; omega
                            · have hb1 : (z == xi) = false := by simp [h1]
                              have HL1 := Lib.hid ((lastI_miss HID.out h1).trans hP1)
                              by_cases h2 : z = yi
                              · have hb2 : (z == yi) = true := by simp [h2]
                                have HL2 := Lib.hid (lastI_hit HID.out h2)
                                clear hP1 hP2 h1 h2
                                go_wp2
                                go_quiet (fail)
                                go_wp2
                                go_quiet (fail)
                                go_wp2
                                go_roundw
                                case rel => exact ⟨q + 1, by omega, by go_num, by rw [HL1.out], by rw [HL2.out], Lib.hid (HOQ.out.on (below_drewN' (Below.refl _ _) _))⟩
                                case measure => simp [intOf]; omega
                              · have hb2 : (z == yi) = false := by simp [h2]
                                have HL2 := Lib.hid ((lastI_miss HID.out h2).trans hP2)
                                clear hP1 hP2 h1 h2
                                go_wp2
                                go_quiet (fail)
                                go_wp2
                                go_quiet (fail)
                                go_wp2
                                go_roundw
                                case rel => exact ⟨q + 1, by omega, by go_num, by rw [HL1.out], by rw [HL2.out], Lib.hid (HOQ.out.on (below_drewN' (Below.refl _ _) _))⟩
                                case measure => simp [intOf]; omega
                          · obtain rfl : q = l6.length := by omega
                            have hqI : ¬ (l6.length : Int) < (l6.length : Int) := by omega
                            obtain ⟨e1, e2, e3⟩ := HEE.out
                            obtain ⟨P1, hP1⟩ : ∃ P1, lastI xi ids l6.length = P1 := ⟨_, rfl⟩
                            obtain ⟨P2, hP2⟩ : ∃ P2, lastI yi ids l6.length = P2 := ⟨_, rfl⟩
                            rw [hP1, hP2] at e3
                            rw [hP1] at e1
                            rw [hP2] at e2
                            rw [hP1, hP2]
                            clear hP1 hP2
                            have f1 : ¬ P1 < 0 := by omega
                            have f2 : ¬ P2 < 0 := by omega
                            have f3 : ¬ P2 < P1 := by omega
                            have f4 : ¬ P1 > P2 := by omega
                            go_wp2
                            go_roundw
                            case rel => exact ⟨j + 1, by omega, by omega, by go_num, HOQ⟩
                            case measure => simp [intOf]; omega
                  · obtain rfl : j = l6.length := by omega
                    have hjI : ¬ (l6.length : Int) < (l6.length : Int) := by omega
                    go_wp2
                    go_roundw
                    case rel => exact ⟨i + 1, by omega, by go_num, HOJ⟩
                    case measure => simp [intOf]; omega
              · obtain rfl : i = l6.length := by omega
                have hiI : ¬ (l6.length : Int) < (l6.length : Int) := by omega
                have HBW := Lib.hid HOI.out.ox.low
                go_wp2_with (first
                  | (go_at_call 8; refine (HAL.out _).mono ?_; rintro e w9 ⟨rfl, hb9⟩))
                go_ret
                exact ⟨rfl, HBW.out.on hb9⟩
          · rw [decide_eq_false he] at HEM
            have HRE := Lib.hid (HOD.out.ox.ready)
            have hrl := rdy_some (s := t) (by omega)
            have hrl4 : (rdyI t t.es.length).length ≤ 4 := Nat.le_trans (rdyI_len _ _) HDO.out.ok.len
            have HMG := Lib.hid (fun q (hq : q ∈ rdyI t t.es.length) => (mayGo_iff t q).1 hq)
            obtain ⟨rd, hrd⟩ : ∃ rd, rdyI t t.es.length = rd := ⟨_, rfl⟩
            rw [hrd] at HRE hrl hrl4 HMG
            clear hrd
            obtain ⟨rl, hrle⟩ : ∃ rl, rd.length = rl := ⟨_, rfl⟩
            rw [hrle] at HRE hrl hrl4
            have HRL := Lib.hid hrle
            clear hrle
            have hr0 : ((rl : Int) == 0) = false := by simp; omega
            go_upto_if 79 with (first
              | (go_at_call 24; refine HEM.out.mono ?_; rintro e w7 ⟨rfl, rfl⟩)
              | (go_at_call 22; refine HRE.out.mono ?_; rintro e w7 ⟨v7, rfl, ho7, hb7⟩; obtain ⟨Aq, cq, rfl⟩ := own_shape ho7; have HO7 := Lib.hid (Rd.of_own ho7); have HOD7 := Lib.hid (HOD.out.on hb7); clear ho7 hb7))
            have hrlI : (0 : Int) < (rl : Int) ∧ (rl : Int) ≤ 4 := by omega
            go_cut [14] from 76 to 87 (fun s13 wx => w7 = wx ∧ ∃ kk : Nat, s13 = .int .i64 (kk : Int) ∧ kk < rl)
            case first =>
              by_cases hn : n < ps.length
              · have hnI : (n : Int) < (ps.length : Int) := by omega
                obtain ⟨bp, offp, hAp, hbp, hcp⟩ := HRP.out.at (i := n) (by unfold cellsB; rw [List.length_map]; exact hn)
                subst hAp
                simp only [cellsB, List.getElem_map] at hcp
                have hcp' := (Below.cell HOD7.out.ox.low (p := ⟨bp, offp + n, none⟩) hbp).trans hcp
                have hpv := HWP.out ps[n] (List.getElem_mem _)
                generalize ps[n] = pv at *
                have hpw : IntKind.i64.wrap pv = pv := by rw [IntKind.wrap_i64]; omega
                have hmod : 0 ≤ pv % (rl : Int) ∧ pv % (rl : Int) < (rl : Int) := ⟨Int.emod_nonneg _ (by omega), Int.emod_lt_of_pos _ (by omega)⟩
                have htm : pv.tmod (rl : Int) = pv % (rl : Int) := Int.tmod_eq_emod_of_nonneg hpv.1
                have hmw : IntKind.i64.wrap (pv % (rl : Int)) = pv % (rl : Int) := by rw [IntKind.wrap_i64]; omega
                go_wp2
                go_meet
                case rel =>
                  exact ⟨rfl, (pv % (rl : Int)).toNat, by rw [Int.toNat_of_nonneg hmod.1], by omega⟩
              · have hnI : ¬ (n : Int) < (ps.length : Int) := by omega
                go_wp2
                go_meet
                case rel => exact ⟨rfl, 0, rfl, by omega⟩
            case rest =>
              obtain ⟨rfl, kk, rfl, hkk⟩ := hcut
              have hkkr : kk < rd.length := by rw [HRL.out]; exact hkk
              obtain ⟨b7, off7, hA7, hb7l, hc7⟩ := HO7.out.at (i := kk) (by unfold cellsI; rw [List.length_map]; exact hkkr)
              subst hA7
              simp only [cellsI, List.getElem_map] at hc7
              have hq := HMG.out rd[kk] (List.getElem_mem _)
              obtain ⟨q, hqe⟩ : ∃ q, rd[kk] = q := ⟨_, rfl⟩
              rw [hqe] at hc7 hq
              have hkkI : (0 : Int) ≤ (kk : Int) ∧ (kk : Int) < (rl : Int) := by omega
              clear hqe
              have HDR := Lib.hid (HOD7.out.ox.dra q)
              obtain ⟨E, hstep⟩ := HDO.out.step hq
              have hless := dra_less hq
              obtain ⟨O, hO⟩ : ∃ O, outB t q = O := ⟨_, rfl⟩
              obtain ⟨t', ht'⟩ : ∃ t', draB t q = t' := ⟨_, rfl⟩
              have hOn : 0 < O.length ∧ O.length ≤ 8 := by
                rw [← hO]
                unfold outB
                rw [if_pos hq]
                unfold mayGo at hq
                simp only [Bool.and_eq_true, decide_eq_true_eq] at hq
                have hk' : q.toNat < t.es.length := by omega
                rw [getD_ent hk']
                exact HDO.out.ok.some _ (List.getElem_mem _)
              obtain ⟨hOn, hO8⟩ := hOn
              rw [hO, ht'] at HDR hstep
              rw [ht'] at hless
              have HDO1 := Lib.hid hstep
              clear hstep hq hO ht' HMG HRE HO7
              go_wp2_with (first
                | (go_at_call 15; refine HDR.out.mono ?_; rintro e w8 ⟨⟨v8, rfl, ho8, hn8, hx8⟩, hs8⟩; obtain ⟨gd, cd, rfl, _, _⟩ := ho8.form hOn; have HO8 := Lib.hid ho8; have HF8 := Lib.hid (HOD7.out.same (hx8 _ (fun r hr => .inl hr)) hs8); clear ho8 hn8 hx8 hs8)
                | (at_builtin; refine wpList_append_lies _ rfl _ _ 39 rfl W.heap.size 34 iw _ 4 32 Try.underlying39 hiw hwz hwS hwb rfl (by decide) _ l7.length (cellsW l7) rfl HF8.out.r7 ⟨gd, 0, none⟩ O.length cd (cellsW O) rfl (cellsW_n4 O) (own_news HO8.out) (cellsW_cell1 O) hOn (by unfold maxLen; omega) (by omega) (Below.size HF8.out.ox.low) _ rfl ?_; intro gv cv w10 ho10 hg10 hat10 hlt10; have HF10 := Lib.hid (HF8.out.app7 hg10 hat10 hlt10 ho10); clear ho10 hg10 hat10 hlt10))
              go_roundw
              case rel => exact ⟨n + 1, D ++ O.map (fun x => (x, E)), l7 ++ O, t', by omega, by go_num, HDO1, by omega, Lib.hid (by rw [H7.out, List.map_append, List.map_map]; congr 1; exact (List.map_id _).symm), HF10⟩
              case measure => simp [intOf]; omega
      · have hc1' : ¬ (k : Int) < (l.length : Int) := by omega
        have HDN0 := Lib.hid HPO.out.drain
        have hes4 := HPO.out.ok.len
        have h8Z : l8.length = l6.length := by rw [H8.out, H6.out, List.length_map, List.length_map]
        have h6Z : Z.length = l6.length := by rw [H6.out, List.length_map]
        go_wp2
        go_loopw [7, 12] (fun v7 v wx => ∃ (n : Nat) (D : List Ep) (l7 : List Wr) (t : Bst), n ≤ 4 ∧ v = .int .i64 (n : Int) ∧ Hid (DO t D Z) ∧ t.es.length + n ≤ 4 ∧ Hid (l7 = D.map Prod.fst) ∧ Hid (OO W g t (.slice A6 l6.length cp6) l6 (.slice A8 l8.length cp8) l8 v7 l7 [] wx)) (fun _ v _ => 60 - (intOf v).toNat)
        case atStart => exact ⟨0, [], [], s, by omega, rfl, HDN0, by omega, Lib.hid rfl, HOO⟩
        case round =>
          obtain ⟨n, D, l7, t, hn4, rfl, HDO, htn, H7, HOD⟩ := hrel
          clear HOO HDN0
          obtain ⟨A7, cp7, hv7⟩ := own_shape HOD.out.r7
          subst hv7
          have h7Z : l7.length ≤ l6.length := by rw [H7.out, ← h6Z, List.length_map]; exact HDO.out.most
          have hn60 : (n : Int) < 60 := by omega
          have HEM := Lib.hid (HOD.out.ox.empty)
          by_cases he : t.es.length = 0
          · rw [decide_eq_true he] at HEM
            have h76 : l7.length = l6.length := by rw [H7.out, ← h6Z, List.length_map]; exact HDO.out.all he
            rw [h76, h8Z] at HOD
            rw [h76, h8Z]
            have HENDS := Lib.hid (fun (i j : Nat) (hij : i < j) (hi : i < l6.length) (hj : j < l6.length) => ends6 HDO.out HPO.out he H6.out H8.out H7.out hij hi hj (by rw [h8Z]; exact hi) (by rw [h8Z]; exact hj))
            rw [h76] at HENDS
            have HIDS := Lib.hid (fun (j : Nat) (hj : j < l7.length) => ids_at hj)
            obtain ⟨ids, hids⟩ : ∃ ids, l7.map Wr.id = ids := ⟨_, rfl⟩
            rw [hids] at HENDS HIDS
            clear hids
            go_wp2_with (first
              | (go_at_call 24; refine HEM.out.mono ?_; rintro e w7 ⟨rfl, rfl⟩))
            clear HEM HPO HDO
            go_loopw [15] (fun v wx => ∃ i : Nat, i ≤ l6.length ∧ v = .int .i64 (i : Int) ∧ Hid (OO W g t (.slice A6 l6.length cp6) l6 (.slice A8 l6.length cp8) l8 (.slice A7 l6.length cp7) l7 [] wx)) (fun v _ => l6.length - (intOf v).toNat)
            case atStart => exact ⟨0, by omega, rfl, HOD⟩
            case round =>
              obtain ⟨i, hi, rfl, HOI⟩ := hrel
              clear HOD
              by_cases hi1 : i < l6.length
              · have hiI : (i : Int) < (l6.length : Int) := by omega
                obtain ⟨g6, cq6, hA6⟩ := own_wr HOI.out.r6 hi1 rfl
                cases hA6
                obtain ⟨g7, cq7, hA7⟩ := own_wr HOI.out.r7 (show 0 < l7.length by omega) rfl
                rw [h76] at hA7
                cases hA7
                obtain ⟨g8, cq8, hA8, _, _⟩ := HOI.out.r8.form (show 0 < l8.length by omega)
                rw [h8Z] at hA8
                cases hA8
                have hi60 : (i : Int) < 60 := by omega
                go_wp2
                go_loopw [16] (fun v wx => ∃ j : Nat, i < j ∧ j ≤ l6.length ∧ v = .int .i64 (j : Int) ∧ Hid (OO W g t (.slice (some ⟨g6, 0, none⟩) l6.length cp6) l6 (.slice (some ⟨g8, 0, none⟩) l6.length cp8) l8 (.slice (some ⟨g7, 0, none⟩) l6.length cp7) l7 [] wx)) (fun v _ => l6.length - (intOf v).toNat)
                case atStart => exact ⟨i + 1, by omega, by omega, by go_num, HOI⟩
                case round =>
                  obtain ⟨j, hij, hj, rfl, HOJ⟩ := hrel
                  clear HOI
                  by_cases hj1 : j < l6.length
                  · have hjI : (j : Int) < (l6.length : Int) := by omega
                    have HE := Lib.hid (HENDS.out i j hij hi1 hj1)
                    have HX := Lib.hid (fun (X : World) (hX : OO W g t (.slice (some ⟨g6, 0, none⟩) l6.length cp6) l6 (.slice (some ⟨g8, 0, none⟩) l6.length cp8) l8 (.slice (some ⟨g7, 0, none⟩) l6.length cp7) l7 [] X) => own_cell hX.r6 hi1)
                    have HY := Lib.hid (fun (X : World) (hX : OO W g t (.slice (some ⟨g6, 0, none⟩) l6.length cp6) l6 (.slice (some ⟨g8, 0, none⟩) l6.length cp8) l8 (.slice (some ⟨g7, 0, none⟩) l6.length cp7) l7 [] X) => own_cell hX.r6 hj1)
                    have HA := Lib.hid (fun (X : World) (hX : OO W g t (.slice (some ⟨g6, 0, none⟩) l6.length cp6) l6 (.slice (some ⟨g8, 0, none⟩) l6.length cp8) l8 (.slice (some ⟨g7, 0, none⟩) l6.length cp7) l7 [] X) => own_int (show X.ownsRow W.heap.size 3 1 (.slice (some ⟨g8, 0, none⟩) l6.length cp8) l6.length (cellsI l8) from by have := hX.r8; rw [h8Z] at this; exact this) (j := i) (by rw [h8Z]; exact hi1))
                    have HB := Lib.hid (fun (X : World) (hX : OO W g t (.slice (some ⟨g6, 0, none⟩) l6.length cp6) l6 (.slice (some ⟨g8, 0, none⟩) l6.length cp8) l8 (.slice (some ⟨g7, 0, none⟩) l6.length cp7) l7 [] X) => own_int (show X.ownsRow W.heap.size 3 1 (.slice (some ⟨g8, 0, none⟩) l6.length cp8) l6.length (cellsI l8) from by have := hX.r8; rw [h8Z] at this; exact this) (j := j) (by rw [h8Z]; exact hj1))
                    obtain ⟨⟨xi, xa, xz, xd⟩, hx⟩ : ∃ x, l6[i] = x := ⟨_, rfl⟩
                    obtain ⟨⟨yi, ya, yz, yd⟩, hy⟩ : ∃ y, l6[j] = y := ⟨_, rfl⟩
                    obtain ⟨a1, ha1⟩ : ∃ a, l8[i] = a := ⟨_, rfl⟩
                    obtain ⟨a2, ha2⟩ : ∃ a, l8[j] = a := ⟨_, rfl⟩
                    rw [hx, hy, ha1, ha2] at HE
                    rw [hx] at HX
                    rw [hy] at HY
                    rw [ha1] at HA
                    rw [ha2] at HB
                    dsimp only at HE HX HY
                    clear hx hy ha1 ha2
                    have HOV := Lib.hid (roverlap_any xa xz ya yz)
                    obtain ⟨O, hO⟩ : ∃ O, ovl xa xz ya yz = O := ⟨_, rfl⟩
                    rw [hO] at HOV HE
                    clear hO
                    go_upto_region 36 with (fail)
                    go_cut [147] from 115 to 146 (fun sv wx => Hid (OO W g t (.slice (some ⟨g6, 0, none⟩) l6.length cp6) l6 (.slice (some ⟨g8, 0, none⟩) l6.length cp8) l8 (.slice (some ⟨g7, 0, none⟩) l6.length cp7) l7 [] wx) ∧ sv = .bool (!O && decide (a1 = a2)))
                    case first =>
                      obtain ⟨x0, x1, x2, x3⟩ := HX.out _ HOJ.out
                      obtain ⟨y0, y1, y2, y3⟩ := HY.out _ HOJ.out
                      have b1 := HA.out _ HOJ.out
                      have b2 := HB.out _ HOJ.out
                      have HQ := Lib.hid (fun n => HOJ.out.on (below_drewN' (Below.refl wr.heap.size wr) n))
                      cases O with
                      | true =>
                        go_quiet (first | (go_at_call 26; refine Calls.quiet_of_same ((HOV.out _).mono fun _ _ h => ⟨h.1, h.2.symm⟩)))
                        go_wp2
                        go_meet
                        case rel => exact ⟨HQ.out _, rfl⟩
                      | false =>
                        by_cases hab : a1 = a2
                        · have hb3 : (a1 == a2) = true := by simp [hab]
                          go_quiet (first | (go_at_call 26; refine Calls.quiet_of_same ((HOV.out _).mono fun _ _ h => ⟨h.1, h.2.symm⟩)))
                          go_wp2
                          go_meet
                          case rel => exact ⟨HQ.out _, by simp [hab]⟩
                        · have hb3 : (a1 == a2) = false := by simp [hab]
                          go_quiet (first | (go_at_call 26; refine Calls.quiet_of_same ((HOV.out _).mono fun _ _ h => ⟨h.1, h.2.symm⟩)))
                          go_wp2
                          go_meet
                          case rel => exact ⟨HQ.out _, by simp [hab]⟩
                    case rest =>
                      obtain ⟨HOJ2, rfl⟩ := hcut
                      clear HOJ
                      cases hG : (!O && decide (a1 = a2)) with
                      | true =>
                        go_wp2
                        go_roundw
                        case rel => exact ⟨j + 1, by omega, by omega, by go_num, HOJ2⟩
                        case measure => simp [intOf]; omega
                      | false =>
                        have hends := HE.out (must_of hG)
                        have HEE := Lib.hid hends
                        clear hends hG HE HENDS HA HB HOV
                        go_wp2
                        go_loopw [17, 18, 19] (fun v17 v18 v19 wx => ∃ q : Nat, q ≤ l6.length ∧ v19 = .int .i64 (q : Int) ∧ v17 = .int .i64 (lastI xi ids q) ∧ v18 = .int .i64 (lastI yi ids q) ∧ Hid (OO W g t (.slice (some ⟨g6, 0, none⟩) l6.length cp6) l6 (.slice (some ⟨g8, 0, none⟩) l6.length cp8) l8 (.slice (some ⟨g7, 0, none⟩) l6.length cp7) l7 [] wx)) (fun _ _ v19 _ => l6.length - (intOf v19).toNat)
                        case atStart => exact ⟨0, by omega, rfl, rfl, rfl, HOJ2⟩
                        case round =>
                          obtain ⟨q, hq, rfl, rfl, rfl, HOQ⟩ := hrel
                          clear HOJ2
                          by_cases hq1 : q < l6.length
                          · have hqI : (q : Int) < (l6.length : Int) := by omega
                            have hq7 : q < l7.length := by omega
                            obtain ⟨x0, _, _, _⟩ := HX.out _ HOQ.out
                            obtain ⟨y0, _, _, _⟩ := HY.out _ HOQ.out
                            obtain ⟨z0, _, _, _⟩ := own_cell (show wr.ownsRow W.heap.size 34 4 (.slice (some ⟨g7, 0, none⟩) l6.length cp7) l6.length (cellsW l7) from by have := HOQ.out.r7; rw [h76] at this; exact this) hq7
                            have hid := HIDS.out q hq7
                            obtain ⟨z, hz⟩ : ∃ z, l7[q].id = z := ⟨_, rfl⟩
                            rw [hz] at z0 hid
                            clear hz
                            have HID := Lib.hid hid
                            clear hid
                            obtain ⟨P1, hP1⟩ : ∃ P1, lastI xi ids q = P1 := ⟨_, rfl⟩
                            obtain ⟨P2, hP2⟩ : ∃ P2, lastI yi ids q = P2 := ⟨_, rfl⟩
                            rw [hP1, hP2]
                            by_cases h1 : z = xi
                            · have hb1 : (z == xi) = true := by simp [h1]
                              have HL1 := Lib.hid (lastI_hit HID.out h1)
                              by_cases h2 : z = yi
                              · have hb2 : (z == yi) = true := by simp [h2]
                                have HL2 := Lib.hid (lastI_hit HID.out h2)
                                clear hP1 hP2 h1 h2
                                go_wp2
                                go_quiet (fail)
                                go_wp2
                                go_quiet (fail)
                                go_wp2
                                go_roundw
                                case rel => exact ⟨q + 1, by omega, by go_num, by rw [HL1.out], by rw [HL2.out], Lib.hid (HOQ.out.on (below_drewN' (Below.refl _ _) _))⟩
                                case measure => simp [intOf]; omega
                              · have hb2 : (z == yi) = false := by simp [h2]
                                have HL2 := Lib.hid ((lastI_miss HID.out h2).trans hP2)
                                clear hP1 hP2 h1 h2
                                go_wp2
                                go_quiet (fail)
                                go_wp2
                                go_quiet (fail)
                                go_wp2
                                go_roundw
                                case rel => exact ⟨q + 1, by omega, by go_num, by rw [HL1.out], by rw [HL2.out], Lib.hid (HOQ.out.on (below_drewN' (Below.refl _ _) _))⟩
                                case measure => simp [intOf]; omega
                            · have hb1 : (z == xi) = false := by simp [h1]
                              have HL1 := Lib.hid ((lastI_miss HID.out h1).trans hP1)
                              by_cases h2 : z = yi
                              · have hb2 : (z == yi) = true := by simp [h2]
                                have HL2 := Lib.hid (lastI_hit HID.out h2)
                                clear hP1 hP2 h1 h2
                                go_wp2
                                go_quiet (fail)
                                go_wp2
                                go_quiet (fail)
                                go_wp2
                                go_roundw
                                case rel => exact ⟨q + 1, by omega, by go_num, by rw [HL1.out], by rw [HL2.out], Lib.hid (HOQ.out.on (below_drewN' (Below.refl _ _) _))⟩
                                case measure => simp [intOf]; omega
                              · have hb2 : (z == yi) = false := by simp [h2]
                                have HL2 := Lib.hid ((lastI_miss HID.out h2).trans hP2)
                                clear hP1 hP2 h1 h2
                                go_wp2
                                go_quiet (fail)
                                go_wp2
                                go_quiet (fail)
                                go_wp2
                                go_roundw
                                case rel => exact ⟨q + 1, by omega, by go_num, by rw [HL1.out], by rw [HL2.out], Lib.hid (HOQ.out.on (below_drewN' (Below.refl _ _) _))⟩
                                case measure => simp [intOf]; omega
                          · obtain rfl : q = l6.length := by omega
                            have hqI : ¬ (l6.length : Int) < (l6.length : Int) := by omega
                            obtain ⟨e1, e2, e3⟩ := HEE.out
                            obtain ⟨P1, hP1⟩ : ∃ P1, lastI xi ids l6.length = P1 := ⟨_, rfl⟩
                            obtain ⟨P2, hP2⟩ : ∃ P2, lastI yi ids l6.length = P2 := ⟨_, rfl⟩
                            rw [hP1, hP2] at e3
                            rw [hP1] at e1
                            rw [hP2] at e2
                            rw [hP1, hP2]
                            clear hP1 hP2
                            have f1 : ¬ P1 < 0 := by omega
                            have f2 : ¬ P2 < 0 := by omega
                            have f3 : ¬ P2 < P1 := by omega
                            have f4 : ¬ P1 > P2 := by omega
                            go_wp2
                            go_roundw
                            case rel => exact ⟨j + 1, by omega, by omega, by go_num, HOQ⟩
                            case measure => simp [intOf]; omega
                  · obtain rfl : j = l6.length := by omega
                    have hjI : ¬ (l6.length : Int) < (l6.length : Int) := by omega
                    go_wp2
                    go_roundw
                    case rel => exact ⟨i + 1, by omega, by go_num, HOJ⟩
                    case measure => simp [intOf]; omega
              · obtain rfl : i = l6.length := by omega
                have hiI : ¬ (l6.length : Int) < (l6.length : Int) := by omega
                have HBW := Lib.hid HOI.out.ox.low
                go_wp2_with (first
                  | (go_at_call 8; refine (HAL.out _).mono ?_; rintro e w9 ⟨rfl, hb9⟩))
                go_ret
                exact ⟨rfl, HBW.out.on hb9⟩
          · rw [decide_eq_false he] at HEM
            have HRE := Lib.hid (HOD.out.ox.ready)
            have hrl := rdy_some (s := t) (by omega)
            have hrl4 : (rdyI t t.es.length).length ≤ 4 := Nat.le_trans (rdyI_len _ _) HDO.out.ok.len
            have HMG := Lib.hid (fun q (hq : q ∈ rdyI t t.es.length) => (mayGo_iff t q).1 hq)
            obtain ⟨rd, hrd⟩ : ∃ rd, rdyI t t.es.length = rd := ⟨_, rfl⟩
            rw [hrd] at HRE hrl hrl4 HMG
            clear hrd
            obtain ⟨rl, hrle⟩ : ∃ rl, rd.length = rl := ⟨_, rfl⟩
            rw [hrle] at HRE hrl hrl4
            have HRL := Lib.hid hrle
            clear hrle
            have hr0 : ((rl : Int) == 0) = false := by simp; omega
            go_upto_if 79 with (first
              | (go_at_call 24; refine HEM.out.mono ?_; rintro e w7 ⟨rfl, rfl⟩)
              | (go_at_call 22; refine HRE.out.mono ?_; rintro e w7 ⟨v7, rfl, ho7, hb7⟩; obtain ⟨Aq, cq, rfl⟩ := own_shape ho7; have HO7 := Lib.hid (Rd.of_own ho7); have HOD7 := Lib.hid (HOD.out.on hb7); clear ho7 hb7))
            have hrlI : (0 : Int) < (rl : Int) ∧ (rl : Int) ≤ 4 := by omega
            go_cut [14] from 76 to 87 (fun s13 wx => w7 = wx ∧ ∃ kk : Nat, s13 = .int .i64 (kk : Int) ∧ kk < rl)
            case first =>
              by_cases hn : n < ps.length
              · have hnI : (n : Int) < (ps.length : Int) := by omega
                obtain ⟨bp, offp, hAp, hbp, hcp⟩ := HRP.out.at (i := n) (by unfold cellsB; rw [List.length_map]; exact hn)
                subst hAp
                simp only [cellsB, List.getElem_map] at hcp
                have hcp' := (Below.cell HOD7.out.ox.low (p := ⟨bp, offp + n, none⟩) hbp).trans hcp
                have hpv := HWP.out ps[n] (List.getElem_mem _)
                generalize ps[n] = pv at *
                have hpw : IntKind.i64.wrap pv = pv := by rw [IntKind.wrap_i64]; omega
                have hmod : 0 ≤ pv % (rl : Int) ∧ pv % (rl : Int) < (rl : Int) := ⟨Int.emod_nonneg _ (by omega), Int.emod_lt_of_pos _ (by omega)⟩
                have htm : pv.tmod (rl : Int) = pv % (rl : Int) := Int.tmod_eq_emod_of_nonneg hpv.1
                have hmw : IntKind.i64.wrap (pv % (rl : Int)) = pv % (rl : Int) := by rw [IntKind.wrap_i64]; omega
                go_wp2
                go_meet
                case rel =>
                  exact ⟨rfl, (pv % (rl : Int)).toNat, by rw [Int.toNat_of_nonneg hmod.1], by omega⟩
              · have hnI : ¬ (n : Int) < (ps.length : Int) := by omega
                go_wp2
                go_meet
                case rel => exact ⟨rfl, 0, rfl, by omega⟩
            case rest =>
              obtain ⟨rfl, kk, rfl, hkk⟩ := hcut
              have hkkr : kk < rd.length := by rw [HRL.out]; exact hkk
              obtain ⟨b7, off7, hA7, hb7l, hc7⟩ := HO7.out.at (i := kk) (by unfold cellsI; rw [List.length_map]; exact hkkr)
              subst hA7
              simp only [cellsI, List.getElem_map] at hc7
              have hq := HMG.out rd[kk] (List.getElem_mem _)
              obtain ⟨q, hqe⟩ : ∃ q, rd[kk] = q := ⟨_, rfl⟩
              rw [hqe] at hc7 hq
              have hkkI : (0 : Int) ≤ (kk : Int) ∧ (kk : Int) < (rl : Int) := by omega
              clear hqe
              have HDR := Lib.hid (HOD7.out.ox.dra q)
              obtain ⟨E, hstep⟩ := HDO.out.step hq
              have hless := dra_less hq
              obtain ⟨O, hO⟩ : ∃ O, outB t q = O := ⟨_, rfl⟩
              obtain ⟨t', ht'⟩ : ∃ t', draB t q = t' := ⟨_, rfl⟩
              have hOn : 0 < O.length ∧ O.length ≤ 8 := by
                rw [← hO]
                unfold outB
                rw [if_pos hq]
                unfold mayGo at hq
                simp only [Bool.and_eq_true, decide_eq_true_eq] at hq
                have hk' : q.toNat < t.es.length := by omega
                rw [getD_ent hk']
                exact HDO.out.ok.some _ (List.getElem_mem _)
              obtain ⟨hOn, hO8⟩ := hOn
              rw [hO, ht'] at HDR hstep
              rw [ht'] at hless
              have HDO1 := Lib.hid hstep
              clear hstep hq hO ht' HMG HRE HO7
              go_wp2_with (first
                | (go_at_call 15; refine HDR.out.mono ?_; rintro e w8 ⟨⟨v8, rfl, ho8, hn8, hx8⟩, hs8⟩; obtain ⟨gd, cd, rfl, _, _⟩ := ho8.form hOn; have HO8 := Lib.hid ho8; have HF8 := Lib.hid (HOD7.out.same (hx8 _ (fun r hr => .inl hr)) hs8); clear ho8 hn8 hx8 hs8)
                | (at_builtin; refine wpList_append_lies _ rfl _ _ 39 rfl W.heap.size 34 iw _ 4 32 Try.underlying39 hiw hwz hwS hwb rfl (by decide) _ l7.length (cellsW l7) rfl HF8.out.r7 ⟨gd, 0, none⟩ O.length cd (cellsW O) rfl (cellsW_n4 O) (own_news HO8.out) (cellsW_cell1 O) hOn (by unfold maxLen; omega) (by omega) (Below.size HF8.out.ox.low) _ rfl ?_; intro gv cv w10 ho10 hg10 hat10 hlt10; have HF10 := Lib.hid (HF8.out.app7 hg10 hat10 hlt10 ho10); clear ho10 hg10 hat10 hlt10))
              go_roundw
              case rel => exact ⟨n + 1, D ++ O.map (fun x => (x, E)), l7 ++ O, t', by omega, by go_num, HDO1, by omega, Lib.hid (by rw [H7.out, List.map_append, List.map_map]; congr 1; exact (List.map_id _).symm), HF10⟩
              case measure => simp [intOf]; omega
theorem sbufOrder_law (A : Option Addr) (cap : Nat) (l : List At) (B : Option Addr) (bap : Nat) (ps : List Int) (W : World) (hl : l.length ≤ cap) (hcap : cap ≤ 9223372036854775807) (hA : A = none → cap = 0 ∧ l = []) (hw : Wats l) (hr : Rd W W.heap.size A (cellsA l))
    (hl1 : ps.length ≤ bap) (hbap : bap ≤ 9223372036854775807) (hB : B = none → bap = 0 ∧ ps = []) (hwp : ∀ z ∈ ps, (Lit.int .u8 z).wf = true) (hrp : Rd W W.heap.size B (ps.map (Value.int .u8))) :
    Calls Try.prog 5 #[.slice A l.length cap, .slice B ps.length bap] W fun e w' => e = .returned (.bool true) ∧ Below W.heap.size W w' :=
  order_walk A cap l B bap ps W (by omega) (by omega) hw (fun z hz => wf_u8_out (hwp z hz)) hr hrp
end Go.Proofs.Ythifeaolodmhhaa
