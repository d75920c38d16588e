/- Layer 13: a buffer beside rows of the law's own; acts that came in; bytes that stores leave. -/
import Derived.Test.YtcddgcchpmjdiaaVu
import Derived.Test.YtcddgcchpmjdiaaOv
set_option maxRecDepth 100000
set_option linter.unusedVariables false
namespace Go.Proofs.Ytcddgcchpmjdiaa
open Go.RowKit

/-- A buffer whose blocks are all beyond W, and none of R. -/
def OX (W : World) (R : List Nat) (g : Nat) (s : Bst) (w : World) : Prop :=
  BsOk s ∧ (∀ r ∈ R, r < w.heap.size) ∧ ∃ p : Bpl, BufAt s p w ∧ p.g = g ∧ (∀ i ∈ p.foot, W.heap.size ≤ i ∧ i ∉ R) ∧ BW W w
theorem OX.ok {W w : World} {R : List Nat} {g : Nat} {s : Bst} (h : OX W R g s w) : BsOk s := h.1
theorem OX.low {W w : World} {R : List Nat} {g : Nat} {s : Bst} (h : OX W R g s w) : BW W w := by
  obtain ⟨_, _, p, _, _, _, h4⟩ := h
  exact h4
theorem OX.on {W w w' : World} {R : List Nat} {g : Nat} {s : Bst} (h : OX W R g s w) (k : BW w w') : OX W R g s w' := by
  obtain ⟨h0, hr, p, h1, h2, h3, h4⟩ := h
  exact ⟨h0, fun r hm => Nat.lt_of_lt_of_le (hr r hm) (Below.size k), p, h1.on k, h2, h3, h4.on k⟩
/-- Rows of R grow, or are written. -/
theorem OX.grown {W w w1 : World} {R R' : List Nat} {g : Nat} {s : Bst} {row : Option Nat} (h : OX W R g s w) (hg : w.grownBy w1 row) (hrow : ∀ k, row = some k → k ∈ R ∧ W.heap.size ≤ k) (hR : ∀ r ∈ R', r < w1.heap.size ∧ (r ∈ R ∨ w.heap.size ≤ r)) : OX W R' g s w1 := by
  obtain ⟨h0, hr, p, h1, h2, h3, h4⟩ := h
  have hf : Fr row.toList w w1 := (Fr.refl _ _).grown hg (fun i hi => .inl (by simp [hi]))
  refine ⟨h0, fun r hm => (hR r hm).1, p, h1.fr hf (fun i hi hm => (h3 i hi).2 (hrow i (by simpa using hm)).1), h2, fun i hi => ⟨(h3 i hi).1, fun hm => ?_⟩, Below.grown h4 hg (Below.size h4) (fun k hk => (hrow k hk).2)⟩
  rcases (hR i hm).2 with h5 | h5
  · exact (h3 i hi).2 h5
  · have := h1.lt i hi; omega
theorem OX.set {W w : World} {R : List Nat} {g : Nat} {s : Bst} (h : OX W R g s w) {r q : Nat} (hr : r ∈ R) (hW : W.heap.size ≤ r) (v : Value) : OX W R g s (w.setCell ⟨r, q, none⟩ v) := by
  obtain ⟨h0, hr', p, h1, h2, h3, h4⟩ := h
  have hf : Fr [r] w (w.setCell ⟨r, q, none⟩ v) := (Fr.refl _ _).setCell (.inl (by simp)) _
  exact ⟨h0, fun i hm => Nat.lt_of_lt_of_le (hr' i hm) hf.size, p, h1.fr hf (fun i hi hm => (h3 i hi).2 (by have e : i = r := (by simpa using hm); rw [e]; exact hr)), h2, h3, Below.setCell h4 hW v⟩
theorem OX.new {W w : World} {R : List Nat} (k : BW W w) (hR : ∀ r ∈ R, r < w.heap.size) : OX W R w.heap.size ⟨[], 0⟩ (w.alloc (.cells #[.slice none 0 0, .int .i64 0] 27)) := by
  refine ⟨BsOk.zero, fun r hr => by rw [World.size_alloc]; have := hR r hr; omega, ⟨w.heap.size, .slice none 0 0, []⟩, ⟨rfl, Blk.new _ _ _, World.ownsRow_nil _ _ _ _, by simp, by simp [Bpl.foot, Value.ownBlock]⟩, rfl, ?_, BW.new k _⟩
  intro i hi
  have : i = w.heap.size := by simpa [Bpl.foot, Value.ownBlock] using hi
  rw [this]
  exact ⟨Below.size k, fun hm => by have := hR _ hm; omega⟩
/-- New rows stand beside. -/
theorem OX.more {W w w1 : World} {R R' : List Nat} {g : Nat} {s : Bst} (h : OX W R g s w) (k : BW w w1) (hR : ∀ r ∈ R', r < w1.heap.size ∧ (r ∈ R ∨ w.heap.size ≤ r)) : OX W R' g s w1 :=
  h.grown (row := none) ⟨k.os, k.tape, k.output, Below.size k, fun i hi _ => k.block i hi⟩ (fun _ hk => by cases hk) hR
/-- What a call leaves of R's blocks. -/
def Same (R : List Nat) (w w' : World) : Prop := ∀ r ∈ R, w'.heap[r]? = w.heap[r]?
theorem Same.row {R : List Nat} {w w' : World} (h : Same R w w') {base z n : Nat} {e : TypeId} {v : Value} {xs : List Value} (ho : w.ownsRow base e z v n xs) (hv : ∀ k, v.ownBlock = some k → k ∈ R) : w'.ownsRow base e z v n xs := by
  refine ⟨ho.1, ?_⟩
  rcases ho.2 with hn | ⟨g, cap, cur, rfl, hb, hgg, rest⟩
  · exact .inl hn
  · exact .inr ⟨g, cap, cur, rfl, hb, (h g (hv g rfl)).trans hgg, rest⟩
theorem Same.rowB {R : List Nat} {w w' : World} (h : Same R w w') {e : TypeId} {xs : List Value} {g : Nat} (ho : RowB e xs g w) (hv : g ∈ R) : RowB e xs g w' := by
  obtain ⟨ys, hb⟩ := ho
  exact ⟨ys, (h g hv).trans hb⟩
theorem Same.blk {R : List Nat} {w w' : World} (h : Same R w w') {cs : Array Value} {t : TypeId} {g : Nat} (hb : Blk cs t g w) (hv : g ∈ R) : Blk cs t g w' := (h g hv).trans hb
theorem same_fr {R F : List Nat} {w w' : World} (hf : Fr F w w') (hR : ∀ r ∈ R, r < w.heap.size ∧ r ∉ F) : Same R w w' := fun r hr => hf.block r (hR r hr).1 (hR r hr).2
theorem OX.put {W w : World} {R : List Nat} {g : Nat} {s : Bst} (h : OX W R g s w) (x : Wr) (hb : x.addr ≤ 9223372036854775807) (h0 : 0 ≤ x.data) (h1 : x.data < 2 ^ 64) :
    Calls Try.prog 10 #[.pointer (some ⟨g, 0, none⟩), .agg #[.int .i64 x.id, .int .i64 x.addr, .int .i64 x.size, .int .u64 x.data]] w fun e w' => e = .returned (.bool (placeN s x).2) ∧ OX W R g (putB s x) w' ∧ Same R w w' := by
  obtain ⟨hok, hR, p, g1, rfl, g3, g4⟩ := h
  refine (put_c g1 hok x hb h0 h1).mono ?_
  rintro e w' ⟨rfl, p', f1, f2, f3, f4⟩
  refine ⟨rfl, ⟨hok.put x h0 h1, fun r hr => Nat.lt_of_lt_of_le (hR r hr) f4.size, p', f1, f2, fun i hi => ?_, Below.trans g4 (f4.below (fun i hi => (g3 i hi).1) g4.size)⟩, same_fr f4 fun r hr => ⟨hR r hr, fun hm => (g3 r hm).2 hr⟩⟩
  rcases f3 i hi with h5 | h5
  · exact g3 i h5
  · exact ⟨by have := Below.size g4; omega, fun hm => by have := hR i hm; omega⟩
theorem OX.bar {W w : World} {R : List Nat} {g : Nat} {s : Bst} (h : OX W R g s w) (hE : s.ep ≤ 1000000) :
    Calls Try.prog 12 #[.pointer (some ⟨g, 0, none⟩)] w fun e w' => e = .returned (.tuple #[]) ∧ OX W R g (barB s) w' ∧ Same R w w' := by
  obtain ⟨hok, hR, p, g1, rfl, g3, g4⟩ := h
  refine (barrier_c g1 hok hE).mono ?_
  rintro e w' ⟨rfl, f1, f2⟩
  have hg := g3 p.g (by rw [foot_eq]; simp)
  have hb := f2.below (B := W.heap.size) (fun i hi => by have e : i = p.g := (by simpa using hi); rw [e]; exact hg.1) g4.size
  exact ⟨rfl, ⟨hok.bar, fun r hr => Nat.lt_of_lt_of_le (hR r hr) f2.size, p, f1, rfl, g3, Below.trans g4 hb⟩, same_fr f2 fun r hr => ⟨hR r hr, fun hm => hg.2 (by have e : r = p.g := (by simpa using hm); rw [← e]; exact hr)⟩⟩
theorem OX.dra {W w : World} {R : List Nat} {g : Nat} {s : Bst} (h : OX W R g s w) (q : Int) :
    Calls Try.prog 15 #[.pointer (some ⟨g, 0, none⟩), .int .i64 q] w fun e w' => (∃ v, e = .returned v ∧ w'.ownsRow W.heap.size 34 4 v (outB s q).length (cellsW (outB s q)) ∧ (∀ i, v.ownBlock = some i → i ∉ R) ∧ ∀ R', (∀ r ∈ R', r ∈ R ∨ v.ownBlock = some r) → OX W R' g (draB s q) w') ∧ Same R w w' := by
  obtain ⟨hok, hR, p, g1, rfl, g3, g4⟩ := h
  refine (drain_c g1 hok q).mono ?_
  rintro e w' ⟨v, p', rfl, f1, f2, f3, f4, f5, f6⟩
  refine ⟨⟨v, rfl, ⟨f1.1, ?_⟩, fun i hi => (g3 i (f5 i hi).1).2, fun R' hR' => ⟨hok.dra q, fun r hr => ?_, p', f2, f3, fun i hi => ⟨(g3 i (f4 i hi)).1, fun hm => ?_⟩, Below.trans g4 (f6.below (fun i hi => (g3 i hi).1) g4.size)⟩⟩, same_fr f6 fun r hr => ⟨hR r hr, fun hm => (g3 r hm).2 hr⟩⟩
  · rcases f1.2 with h1 | ⟨b, cap, cur, hv, _, hr⟩
    · exact .inl h1
    · exact .inr ⟨b, cap, cur, hv, (g3 b (f5 b (by rw [hv]; rfl)).1).1, hr⟩
  · rcases hR' r hr with h1 | h1
    · exact Nat.lt_of_lt_of_le (hR r h1) f6.size
    · exact (f1.lt r h1).2
  · rcases hR' i hm with h1 | h1
    · exact (g3 i (f4 i hi)).2 h1
    · exact (f5 i h1).2 hi
theorem OX.fits {W w : World} {R : List Nat} {g : Nat} {s : Bst} (h : OX W R g s w) (x : Wr) (hb : x.addr ≤ 9223372036854775807) :
    Calls Try.prog 9 #[.pointer (some ⟨g, 0, none⟩), .agg #[.int .i64 x.id, .int .i64 x.addr, .int .i64 x.size, .int .u64 x.data]] w fun e w' => e = .returned (.bool (placeN s x).2) ∧ BW w w' := by
  obtain ⟨hok, _, p, g1, rfl, _⟩ := h
  exact fits_c g1 hok x hb
theorem OX.find {W w : World} {R : List Nat} {g : Nat} {s : Bst} (h : OX W R g s w) (q : Int) :
    Calls Try.prog 17 #[.pointer (some ⟨g, 0, none⟩), .int .i64 q] w fun e w' => e = .returned (findV (findB s q)) ∧ BW w w' := by
  obtain ⟨hok, _, p, g1, rfl, _⟩ := h
  exact find_c g1 hok q
theorem OX.over {W w : World} {R : List Nat} {g : Nat} {s : Bst} (h : OX W R g s w) (a z : Int) :
    Calls Try.prog 19 #[.pointer (some ⟨g, 0, none⟩), .int .i64 a, .int .i64 z] w fun e w' => e = .returned (.bool (ovB s a z)) ∧ BW w w' := by
  obtain ⟨hok, _, p, g1, rfl, _⟩ := h
  exact over_c g1 hok a z
theorem OX.empty {W w : World} {R : List Nat} {g : Nat} {s : Bst} (h : OX W R g s w) :
    Calls Try.prog 24 #[.pointer (some ⟨g, 0, none⟩)] w fun e w' => e = .returned (.bool (decide (s.es.length = 0))) ∧ w = w' := by
  obtain ⟨hok, _, p, g1, rfl, _⟩ := h
  exact empty_c g1 hok
theorem OX.elder {W w : World} {R : List Nat} {g : Nat} {s : Bst} (h : OX W R g s w) :
    Calls Try.prog 25 #[.pointer (some ⟨g, 0, none⟩)] w fun e w' => e = .returned (.bool (eldB s)) ∧ BW w w' := by
  obtain ⟨hok, _, p, g1, rfl, _⟩ := h
  exact elder_c g1 hok
theorem OX.ready {W w : World} {R : List Nat} {g : Nat} {s : Bst} (h : OX W R g s w) :
    Calls Try.prog 22 #[.pointer (some ⟨g, 0, none⟩)] w (RetOwn w 3 1 (rdyI s s.es.length).length (cellsI (rdyI s s.es.length))) := by
  obtain ⟨hok, _, p, g1, rfl, _⟩ := h
  exact ready_c g1 hok
theorem OX.entries {W w : World} {R : List Nat} {g : Nat} {s : Bst} (h : OX W R g s w) :
    Calls Try.prog 23 #[.pointer (some ⟨g, 0, none⟩)] w (RetRows w (s.es.map Ent.st)) := by
  obtain ⟨hok, _, p, g1, rfl, _⟩ := h
  exact entries_c g1 hok

/-! ### Acts that came in -/
theorem at_cell {w : World} {A : Option Addr} {l : List At} (h : Rd w w.heap.size A (cellsA l)) (hl : 0 < l.length) : ∃ b off, A = some ⟨b, off, none⟩ ∧ b < w.heap.size ∧ ∀ k (hk : k < l.length), w.cell? ⟨b, off + k * 5, none⟩ = some (.int .i64 l[k].kind) ∧ w.cell? ⟨b, off + k * 5 + 1, none⟩ = some (.int .i64 l[k].w.id) ∧ w.cell? ⟨b, off + k * 5 + 2, none⟩ = some (.int .i64 l[k].w.addr) ∧
    w.cell? ⟨b, off + k * 5 + 3, none⟩ = some (.int .i64 l[k].w.size) ∧ w.cell? ⟨b, off + k * 5 + 4, none⟩ = some (.int .u64 l[k].w.data) := by
  have hz : ∀ x : At, ((atCells x).toList).length = 5 := fun _ => rfl
  rcases h with h0 | ⟨b, off, rfl, hb, hc⟩
  · have h1 := flat_len (fun x => (atCells x).toList) 5 hz l
    have h2 : (cellsA l).length = l.length * 5 := h1
    rw [h0] at h2
    simp at h2
    omega
  · refine ⟨b, off, rfl, hb, fun k hk => ?_⟩
    have at_ : ∀ j, j < 5 → w.cell? ⟨b, off + k * 5 + j, none⟩ = (atCells l[k])[j]? := fun j hj => by
      have e := flat_at (fun x => (atCells x).toList) 5 hz l k j hj
      rw [List.getElem?_eq_getElem hk] at e
      have e2 : (cellsA l)[k * 5 + j]? = (atCells l[k]).toList[j]? := e
      have hj2 : j < (atCells l[k]).toList.length := hj
      rw [List.getElem?_eq_getElem hj2] at e2
      have := hc (k * 5 + j) _ e2
      rw [← Nat.add_assoc] at this
      rw [this]
      simp
    exact ⟨at_ 0 (by omega), at_ 1 (by omega), at_ 2 (by omega), at_ 3 (by omega), at_ 4 (by omega)⟩
/-- A row of writes of the call's own, cell by cell. -/
theorem own_cell {w : World} {base g n cap : Nat} {l : List Wr} (h : w.ownsRow base 34 4 (.slice (some ⟨g, 0, none⟩) n cap) n (cellsW l)) {j : Nat} (hj : j < l.length) : w.cell? ⟨g, j * 4, none⟩ = some (.int .i64 l[j].id) ∧ w.cell? ⟨g, j * 4 + 1, none⟩ = some (.int .i64 l[j].addr) ∧ w.cell? ⟨g, j * 4 + 2, none⟩ = some (.int .i64 l[j].size) ∧ w.cell? ⟨g, j * 4 + 3, none⟩ = some (.int .u64 l[j].data) := by
  have hc := h.cells (g := g) rfl
  have cc : ∀ k, (hk : k < 4) → w.cell? ⟨g, j * 4 + k, none⟩ = (wrCells l[j])[k]? := fun k hk => by
    have := hc (j * 4 + k) ((wrCells l[j])[k]'hk) (by rw [cellsW_at _ j hj k hk]; exact Array.getElem?_eq_getElem hk)
    rw [show (⟨g, 0, none⟩ : Addr).add (j * 4 + k) = ⟨g, j * 4 + k, none⟩ by unfold Addr.add; split <;> simp_all] at this
    rw [this]; exact (Array.getElem?_eq_getElem hk).symm
  exact ⟨cc 0 (by omega), cc 1 (by omega), cc 2 (by omega), cc 3 (by omega)⟩
/-- The first k acts: Kind 1 is a barrier, all others are stores. -/
def actB (s : Bst) (a : At) : Bst := if a.kind = 1 then barB s else putB s a.w
def runA (l : List At) (k : Nat) : Bst := (l.take k).foldl actB ⟨[], 0⟩
theorem runA_zero (l : List At) : runA l 0 = ⟨[], 0⟩ := by simp [runA]
theorem runA_succ (l : List At) (k : Nat) (h : k < l.length) : runA l (k + 1) = actB (runA l k) l[k] := by
  unfold runA
  rw [List.take_succ_eq_append_getElem h, List.foldl_append]
  rfl
theorem runA_ep (l : List At) : ∀ k, k ≤ l.length → (runA l k).ep ≤ k
  | 0, _ => by rw [runA_zero]; exact Int.le_refl _
  | k + 1, h => by
    rw [runA_succ l k (by omega)]
    have := runA_ep l k (by omega)
    unfold actB
    split
    · have := (barB_ep (runA l k)).1; push_cast; omega
    · rw [putB_ep]; push_cast; omega
end Go.Proofs.Ytcddgcchpmjdiaa
