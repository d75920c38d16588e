/- The shared memory: a write, in plain words and in blocks. -/
import Derived.Test.YteoemjhhjnkkiaaMf
set_option maxRecDepth 100000
set_option linter.unusedVariables false
namespace Go.Proofs.Yteoemjhhjnkkiaa
open Go.RowKit

/-! ### Plain -/
def putL (B : List Int) (a : Nat) (bs : List Int) : List Int := B.take a ++ bs ++ B.drop (a + bs.length)
theorem putL_len {B bs : List Int} {a : Nat} (h : a + bs.length ≤ B.length) : (putL B a bs).length = B.length := by simp [putL]; omega
theorem putL_splice (B bs : List Int) (a : Nat) (ys : List Value) (h : a + bs.length ≤ B.length) : splice (cellsB B ++ ys) a (cellsB bs) = cellsB (putL B a bs) ++ ys := by
  unfold splice putL cellsB
  rw [List.take_append_of_le_length (by simp; omega), List.length_map, List.drop_append_of_le_length (by simp; omega)]
  simp
theorem hasB_iff {x : Wr} {a z q : Nat} (h1 : x.addr = a) (h2 : x.size = z) : hasB x q = decide (a ≤ q ∧ q < a + z) := by
  unfold hasB
  rw [h1, h2, ← Bool.decide_and]
  exact decide_eq_decide.2 (by omega)
theorem map_range_get {α : Type} (f : Nat → α) (n q : Nat) : ((List.range n).map f)[q]? = if q < n then some (f q) else none := by
  rw [List.getElem?_map]
  by_cases h : q < n
  · rw [List.getElem?_range h, if_pos h]; rfl
  · rw [if_neg h, List.getElem?_eq_none (by simp; omega)]; rfl
theorem putL_get {B bs : List Int} {a : Nat} (h : a + bs.length ≤ B.length) (q : Nat) : (putL B a bs)[q]? = if a ≤ q ∧ q < a + bs.length then bs[q - a]? else B[q]? := by
  unfold putL
  have e : (B.take a).length = a := by rw [List.length_take]; omega
  by_cases c1 : q < a
  · rw [if_neg (by omega), List.getElem?_append_left (by rw [List.length_append]; omega), List.getElem?_append_left (by omega), List.getElem?_take, if_pos c1]
  · by_cases c2 : q < a + bs.length
    · rw [if_pos (by omega), List.getElem?_append_left (by rw [List.length_append]; omega), List.getElem?_append_right (by omega), e]
    · rw [if_neg (by omega), List.getElem?_append_right (by rw [List.length_append]; omega), List.length_append, e, List.getElem?_drop]
      congr 1
      omega
theorem bytes_put (b0 : List Int) (l : List Wr) (x : Wr) (a z : Nat) (h1 : x.addr = a) (h2 : x.size = z) (h : a + z ≤ b0.length) : bytesM b0 (l ++ [x]) = putL (bytesM b0 l) a (bytesL x.data z) := by
  refine List.ext_getElem? fun q => ?_
  rw [putL_get (by rw [bytesL_length, bytesM_len]; exact h), bytesL_length]
  unfold bytesM bytesL
  rw [map_range_get, map_range_get, map_range_get, lastB_snoc]
  by_cases c : a ≤ q ∧ q < a + z
  · rw [if_pos c, if_pos (by omega), if_pos (by omega), stepB_yes (by rw [hasB_iff h1 h2]; exact decide_eq_true c), h1]
    show some (byteAt x.data _) = some (byteAt x.data _)
    congr 2
    omega
  · rw [if_neg c, stepB_no (by rw [hasB_iff h1 h2]; exact decide_eq_false c)]
/-- The first k tags of a place are set. -/
def setK (T : List Int) (a : Nat) (i : Int) : Nat → List Int
  | 0 => T
  | k + 1 => (setK T a i k).set (a + k) i
theorem setK_len (T : List Int) (a : Nat) (i : Int) : ∀ k, (setK T a i k).length = T.length
  | 0 => rfl
  | k + 1 => by rw [setK, List.length_set, setK_len T a i k]
theorem setK_get (T : List Int) (a : Nat) (i : Int) (q : Nat) : ∀ k, a + k ≤ T.length → (setK T a i k)[q]? = if a ≤ q ∧ q < a + k then some i else T[q]?
  | 0, _ => by rw [if_neg (by omega)]; rfl
  | k + 1, h => by
    have ih := setK_get T a i q k (by omega)
    simp only [setK]
    rw [List.getElem?_set, setK_len]
    by_cases c1 : a + k = q
    · rw [if_pos c1, if_pos (by omega), if_pos (by omega)]
    · rw [if_neg c1, ih]
      by_cases c2 : a ≤ q ∧ q < a + k
      · rw [if_pos c2, if_pos (by omega)]
      · rw [if_neg c2, if_neg (by omega)]
theorem tags_put (b0 : List Int) (l : List Wr) (x : Wr) (a z : Nat) (h1 : x.addr = a) (h2 : x.size = z) (h : a + z ≤ b0.length) : tagsM b0 (l ++ [x]) = setK (tagsM b0 l) a x.id z := by
  refine List.ext_getElem? fun q => ?_
  rw [setK_get _ _ _ _ _ (by rw [tagsM_len]; exact h)]
  unfold tagsM
  rw [map_range_get, map_range_get, lastB_snoc]
  by_cases c : a ≤ q ∧ q < a + z
  · rw [if_pos c, if_pos (by omega), stepB_yes (by rw [hasB_iff h1 h2]; exact decide_eq_true c)]
  · rw [if_neg c, stepB_no (by rw [hasB_iff h1 h2]; exact decide_eq_false c)]

/-! ### In blocks: while a write is done -/
structure ST (W : World) (p : Pla) (n : Nat) (B T : List Int) (L : List Wr) (r : Nat → Int) (x : Wr) (a z : Int) (w : World) : Prop where
  fr : Fr p.foot W w
  hd : Blk (ramCells (.slice (some ⟨p.gb, 0, none⟩) n p.cb) (.slice (some ⟨p.gt, 0, none⟩) n p.ct) p.vl r) 60 p.g w
  bt : RowB 5 (cellsB B) p.gb w
  tg : RowB 3 (cellsI T) p.gt w
  lg : w.ownsRow 0 31 4 p.vl L.length (cellsW L)
  bx : Blk (wrCells x) 31 W.heap.size w
  pl : Blk #[.int .i64 a, .int .i64 z] 57 (W.heap.size + 1) w
  ap : p.gb ≠ p.g ∧ p.gt ≠ p.g ∧ p.gb ≠ p.gt
  apl : ∀ k, p.vl.ownBlock = some k → k ≠ p.g ∧ k ≠ p.gb ∧ k ≠ p.gt
  lt : ∀ k ∈ p.foot, k < W.heap.size
section
variable {W w w' : World} {p : Pla} {n : Nat} {B T : List Int} {L : List Wr} {r : Nat → Int} {x : Wr} {a z : Int}
theorem ST.on (h : ST W p n B T L r x a z w) (k : BW w w') : ST W p n B T L r x a z w' :=
  ⟨h.fr.on k, h.hd.on k, h.bt.fr (Fr.of [] k) (by simp), h.tg.fr (Fr.of [] k) (by simp), (Fr.of [] k).row h.lg (by simp), h.bx.on k, h.pl.on k, h.ap, h.apl, h.lt⟩
theorem ST.drew (h : ST W p n B T L r x a z w) : ST W p n B T L r x a z w.drew := h.on (Below.drew (Below.refl _ _))
theorem foot_mem (p : Pla) : p.g ∈ p.foot ∧ p.gb ∈ p.foot ∧ p.gt ∈ p.foot := by simp [Pla.foot]
/-- One block of the memory's own is written to. -/
theorem ST.one (h : ST W p n B T L r x a z w) {g : Nat} (k : w.grownBy w' (some g)) (hg : g ∈ p.foot) : Fr p.foot W w' ∧ (p.g ≠ g → Blk (ramCells (.slice (some ⟨p.gb, 0, none⟩) n p.cb) (.slice (some ⟨p.gt, 0, none⟩) n p.ct) p.vl r) 60 p.g w') ∧
    (p.gb ≠ g → RowB 5 (cellsB B) p.gb w') ∧ (p.gt ≠ g → RowB 3 (cellsI T) p.gt w') ∧ (p.vl.ownBlock ≠ some g → w'.ownsRow 0 31 4 p.vl L.length (cellsW L)) ∧ Blk (wrCells x) 31 W.heap.size w' ∧ Blk #[.int .i64 a, .int .i64 z] 57 (W.heap.size + 1) w' := by
  have hl := h.lt g hg
  have kf : Fr [g] w w' := (Fr.refl [g] w).grown k (fun i e => by left; simpa using e.symm)
  refine ⟨h.fr.grown k (fun i e => by cases e; exact .inl hg), fun e => kf.blk h.hd (by simpa using e), fun e => h.bt.fr kf (by simpa using e), fun e => h.tg.fr kf (by simpa using e), fun e => kf.row h.lg (fun i hi => ?_), kf.blk h.bx (by simp; omega), kf.blk h.pl (by simp; omega)⟩
  intro hm
  apply e
  rw [hi]
  simpa using hm
theorem ST.put (h : ST W p n B T L r x a z w) {bs : List Int} {k : Nat} {ys : List Value} (hk : k + bs.length ≤ B.length) (hb : Blk (splice (cellsB B ++ ys) k (cellsB bs)).toArray 5 p.gb w') (g : w.grownBy w' (some p.gb)) : ST W p n (putL B k bs) T L r x a z w' := by
  obtain ⟨f, h1, h2, h3, h4, h5, h6⟩ := h.one g (foot_mem p).2.1
  have hap := h.ap
  rw [putL_splice B bs k ys hk] at hb
  exact ⟨f, h1 (Ne.symm hap.1), ⟨ys, hb⟩, h3 (Ne.symm hap.2.2), h4 (fun e => (h.apl _ e).2.1 rfl), h5, h6, h.ap, h.apl, h.lt⟩
theorem grown_setCell (w : World) (g k : Nat) (v : Value) : w.grownBy (w.setCell ⟨g, k, none⟩ v) (some g) :=
  ⟨rfl, rfl, rfl, by simp [World.setCell], fun i _ hi => Below.heap_setCell _ _ _ _ (fun e => hi (by rw [e]))⟩
theorem ST.tag (h : ST W p n B T L r x a z w) {k : Nat} (hk : k < T.length) (i : Int) : ST W p n B (T.set k i) L r x a z (w.setCell ⟨p.gt, k, none⟩ (.int .i64 i)) := by
  obtain ⟨f, h1, h2, h3, h4, h5, h6⟩ := h.one (grown_setCell w p.gt k (.int .i64 i)) (foot_mem p).2.2
  have hap := h.ap
  refine ⟨f, h1 (Ne.symm hap.2.1), h2 hap.2.2, ?_, h4 (fun e => (h.apl _ e).2.2 rfl), h5, h6, h.ap, h.apl, h.lt⟩
  have := h.tg.set (k := k) (by unfold cellsI; rw [List.length_map]; exact hk) (.int .i64 i)
  unfold cellsI at this ⊢
  rw [List.map_set]
  exact this
/-- The number of the write is put into its place. -/
theorem ST.low (h : ST W p n B T L r x a z w) (v : Int) : ST W p n B T L r ⟨x.id, x.addr, x.size, v⟩ a z (w.setCell ⟨W.heap.size, 3, none⟩ (.int .u64 v)) := by
  have g := grown_setCell w W.heap.size 3 (.int .u64 v)
  have kf : Fr [W.heap.size] w (w.setCell ⟨W.heap.size, 3, none⟩ (.int .u64 v)) := (Fr.refl _ w).grown g (fun i e => by left; simpa using e.symm)
  have ne : ∀ k ∈ p.foot, k ∉ [W.heap.size] := fun k hk e => by
    have := h.lt k hk
    have e : k = W.heap.size := by simpa using e
    omega
  exact ⟨h.fr.grown g (fun i e => by cases e; exact .inr (Nat.le_refl _)), kf.blk h.hd (ne _ (foot_mem p).1), h.bt.fr kf (ne _ (foot_mem p).2.1), h.tg.fr kf (ne _ (foot_mem p).2.2), kf.row h.lg (fun i hi => ne i (by simp [Pla.foot, hi])), h.bx.set 3 (.int .u64 v), kf.blk h.pl (by simp), h.ap, h.apl, h.lt⟩
end
/-- How it begins: the write and its place lie in two new blocks. -/
theorem ST.begin {s : Mst} {p : Pla} {w : World} (h : RamAt s p w) (hp : 0 < s.b0.length) (x : Wr) :
    ST w p s.b0.length (bytesM s.b0 s.l) (tagsM s.b0 s.l) s.l s.r x x.addr x.size ((w.alloc (.cells (wrCells x) 31)).alloc (.cells #[.int .i64 x.addr, .int .i64 x.size] 57)) := by
  have k : BW w ((w.alloc (.cells (wrCells x) 31)).alloc (.cells #[.int .i64 x.addr, .int .i64 x.size] 57)) := (BW.new (Below.refl _ _) _).new _
  have h2 := h.on k
  rcases h2.bytes with h0 | ⟨hA, hT, hb, ht, ap⟩
  · omega
  have hd := h2.head
  rw [hA, hT] at hd
  refine ⟨Fr.of _ k, hd, hb, ht, h2.log, (Blk.new _ _ _).alloc _, ?_, ap, h.apart, h.lt⟩
  have := Blk.new #[Value.int .i64 x.addr, .int .i64 x.size] 57 (w.alloc (.cells (wrCells x) 31))
  simpa using this
end Go.Proofs.Yteoemjhhjnkkiaa
