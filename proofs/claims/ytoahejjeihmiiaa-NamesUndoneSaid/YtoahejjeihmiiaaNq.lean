/- How a file of names lies: the program's and the document's. -/
import Derived.Test.YtoahejjeihmiiaaNp
import Derived.Test.YtoahejjeihmiiaaRwo
import Derived.Test.YtoahejjeihmiiaaOg
set_option maxRecDepth 100000
set_option linter.unusedVariables false
namespace Go.Proofs.Ytoahejjeihmiiaa
open Go.RowKit

/-! ### Heads: cells by their numbers -/
def rowK (n : Nat) (f : Nat → Value) : Array Value := ((List.range n).map f).toArray
theorem rowK_size (n : Nat) (f : Nat → Value) : (rowK n f).size = n := by simp [rowK]
theorem rowK_at {n : Nat} (f : Nat → Value) {k : Nat} (h : k < n) : (rowK n f)[k]? = some (f k) := by simp [rowK, h]
theorem rowK_ext {n : Nat} {f : Nat → Value} {A : Array Value} (h : A.size = n) (h2 : ∀ k, k < n → A[k]? = some (f k)) : A = rowK n f := by
  refine Array.ext (by rw [h, rowK_size]) fun i h1 h3 => ?_
  have a := h2 i (by omega)
  have b := rowK_at f (show i < n by omega)
  rw [Array.getElem?_eq_getElem h1] at a
  rw [Array.getElem?_eq_getElem h3] at b
  exact Option.some.inj (a.trans b.symm)
theorem rowK_congr {n : Nat} {f g : Nat → Value} (h : ∀ k, k < n → f k = g k) : rowK n f = rowK n g := rowK_ext (rowK_size n f) fun k hk => (rowK_at f hk).trans (by rw [h k hk])
theorem rowK_set {n : Nat} {f g : Nat → Value} {i : Nat} {v : Value} (hi : i < n) (hv : g i = v) (h : ∀ k, k < n → k ≠ i → g k = f k) : (rowK n f).setIfInBounds i v = rowK n g := by
  refine rowK_ext (by rw [Array.size_setIfInBounds, rowK_size]) fun k hk => ?_
  by_cases hki : k = i
  · subst hki
    rw [Array.getElem?_setIfInBounds_self_of_lt (by rw [rowK_size]; exact hk), hv]
  · rw [Array.getElem?_setIfInBounds_ne (by omega), rowK_at f hk, h k hk hki]
theorem rowK_part {n : Nat} {f g : Nat → Value} {a : Nat} {cs : List Value} (ha : a + cs.length ≤ n) (hv : ∀ j u, cs[j]? = some u → g (a + j) = u) (h : ∀ k, k < n → k < a ∨ a + cs.length ≤ k → g k = f k) : ((rowK n f).toList.take a ++ cs ++ (rowK n f).toList.drop (a + cs.length)).toArray = rowK n g := by
  have hl : (rowK n f).toList.length = n := by rw [Array.length_toList, rowK_size]
  refine rowK_ext ?_ fun k hk => ?_
  · simp only [List.size_toArray, List.length_append, List.length_take, List.length_drop, hl]
    omega
  · rw [List.getElem?_toArray, List.append_assoc]
    have htl : ((rowK n f).toList.take a).length = a := by rw [List.length_take, hl]; omega
    by_cases h1 : k < a
    · rw [List.getElem?_append_left (by omega), List.getElem?_take, if_pos h1, Array.getElem?_toList, rowK_at f hk, h k hk (.inl h1)]
    · rw [List.getElem?_append_right (by omega), htl]
      by_cases h2 : k - a < cs.length
      · rw [List.getElem?_append_left h2, List.getElem?_eq_getElem h2]
        have := hv (k - a) _ (List.getElem?_eq_getElem h2)
        rw [show a + (k - a) = k by omega] at this
        rw [this]
      · rw [List.getElem?_append_right (by omega), List.getElem?_drop, show a + cs.length + (k - a - cs.length) = k by omega, Array.getElem?_toList, rowK_at f hk, h k hk (.inr (by omega))]

def nCell (s : Nst) (vl : Value) (k : Nat) : Value := if k < 88 then (if k % 2 = 0 then .int .u64 (s.v (k / 2)) else .bool (s.y (k / 2))) else if k < 120 then .int .i64 (s.s (k - 88) : Int) else vl
def nCells (s : Nst) (vl : Value) : Array Value := rowK 121 (nCell s vl)
def dCell (s : Nst) (vl : Value) (k : Nat) : Value := if k < 128 then (if k % 4 = 0 then .int .i64 ((k / 4 : Nat) : Int) else if k % 4 = 1 then .int .i64 (s.s (k / 4) : Int) else if k % 4 = 2 then .int .u64 (s.v (s.s (k / 4))) else .bool true) else vl
def dCells (s : Nst) (vl : Value) : Array Value := rowK 129 (dCell s vl)
section
variable (s : Nst) (vl : Value) {c r : Nat}
theorem nCells_v (h : c < 44) : (nCells s vl)[2 * c]? = some (.int .u64 (s.v c)) := by
  unfold nCells
  rw [rowK_at _ (by omega)]
  unfold nCell
  rw [if_pos (by omega), if_pos (by omega), show 2 * c / 2 = c by omega]
theorem nCells_y (h : c < 44) : (nCells s vl)[2 * c + 1]? = some (.bool (s.y c)) := by
  unfold nCells
  rw [rowK_at _ (by omega)]
  unfold nCell
  rw [if_pos (by omega), if_neg (by omega), show (2 * c + 1) / 2 = c by omega]
theorem nCells_s (h : r < 32) : (nCells s vl)[88 + r]? = some (.int .i64 (s.s r : Int)) := by
  unfold nCells
  rw [rowK_at _ (by omega)]
  unfold nCell
  rw [if_neg (by omega), if_pos (by omega), show 88 + r - 88 = r by omega]
theorem nCells_l : (nCells s vl)[120]? = some vl := rowK_at _ (by omega)
theorem nCells_setS (h : r < 32) : (nCells s vl).setIfInBounds (88 + r) (.int .i64 (c : Int)) = nCells ⟨s.v, s.y, updN s.s r c, s.l⟩ vl := by
  refine rowK_set (by omega) ?_ fun k hk hne => ?_
  · unfold nCell
    rw [if_neg (by omega), if_pos (by omega), show 88 + r - 88 = r by omega]
    dsimp only
    rw [updN_same]
  · unfold nCell
    by_cases h1 : k < 88
    · rw [if_pos h1, if_pos h1]
    · rw [if_neg h1, if_neg h1]
      by_cases h2 : k < 120
      · rw [if_pos h2, if_pos h2]
        dsimp only
        rw [updN_other _ _ _ (by omega)]
      · rw [if_neg h2, if_neg h2]
theorem nCells_setV (h : c < 44) (v : Int) (d : Bool) : ((nCells s vl).toList.take (2 * c) ++ [Value.int .u64 v, Value.bool d] ++ (nCells s vl).toList.drop (2 * c + [Value.int .u64 v, Value.bool d].length)).toArray = nCells ⟨updN s.v c v, updN s.y c d, s.s, s.l⟩ vl := by
  refine rowK_part (by show 2 * c + 2 ≤ 121; omega) (fun j u hu => ?_) fun k hk hne => ?_
  · match j, hu with
    | 0, hu =>
      unfold nCell
      rw [if_pos (by omega), if_pos (by omega), show (2 * c + 0) / 2 = c by omega]
      dsimp only
      rw [updN_same]
      exact Option.some.inj hu
    | 1, hu =>
      unfold nCell
      rw [if_pos (by omega), if_neg (by omega), show (2 * c + 1) / 2 = c by omega]
      dsimp only
      rw [updN_same]
      exact Option.some.inj hu
  · have hne : k < 2 * c ∨ 2 * c + 2 ≤ k := hne
    unfold nCell
    by_cases h1 : k < 88
    · rw [if_pos h1, if_pos h1]
      dsimp only
      rw [updN_other _ _ _ (by omega), updN_other _ _ _ (by omega)]
    · rw [if_neg h1, if_neg h1]
theorem nCells_setL (vl' : Value) : (nCells s vl).setIfInBounds 120 vl' = nCells s vl' := by
  refine rowK_set (by omega) rfl fun k hk hne => ?_
  unfold nCell
  by_cases h1 : k < 88
  · rw [if_pos h1, if_pos h1]
  · rw [if_neg h1, if_neg h1, if_pos (by omega), if_pos (by omega)]
theorem dCells_r (h : r < 32) : (dCells s vl)[4 * r]? = some (.int .i64 (r : Int)) := by
  unfold dCells
  rw [rowK_at _ (by omega)]
  unfold dCell
  rw [if_pos (by omega), if_pos (by omega), show 4 * r / 4 = r by omega]
theorem dCells_s (h : r < 32) : (dCells s vl)[4 * r + 1]? = some (.int .i64 (s.s r : Int)) := by
  unfold dCells
  rw [rowK_at _ (by omega)]
  unfold dCell
  rw [if_pos (by omega), if_neg (by omega), if_pos (by omega), show (4 * r + 1) / 4 = r by omega]
theorem dCells_v (h : r < 32) : (dCells s vl)[4 * r + 2]? = some (.int .u64 (s.v (s.s r))) := by
  unfold dCells
  rw [rowK_at _ (by omega)]
  unfold dCell
  rw [if_pos (by omega), if_neg (by omega), if_neg (by omega), if_pos (by omega), show (4 * r + 2) / 4 = r by omega]
theorem dCells_y (h : r < 32) : (dCells s vl)[4 * r + 3]? = some (.bool true) := by
  unfold dCells
  rw [rowK_at _ (by omega)]
  unfold dCell
  rw [if_pos (by omega), if_neg (by omega), if_neg (by omega), if_neg (by omega)]
theorem dCells_l : (dCells s vl)[128]? = some vl := rowK_at _ (by omega)
theorem dCells_setL (vl' : Value) : (dCells s vl).setIfInBounds 128 vl' = dCells s vl' := by
  refine rowK_set (by omega) rfl fun k hk hne => ?_
  have h1 : k < 128 := by omega
  unfold dCell
  rw [if_pos h1, if_pos h1]
theorem dCells_congr {s t : Nst} (h : ∀ r, r < 32 → s.s r = t.s r ∧ s.v (s.s r) = t.v (t.s r)) (vl : Value) : dCells s vl = dCells t vl := by
  refine rowK_congr fun k hk => ?_
  unfold dCell
  by_cases h1 : k < 128
  · rw [if_pos h1, if_pos h1]
    obtain ⟨a, b⟩ := h (k / 4) (by omega)
    rw [b, a]
  · rw [if_neg h1, if_neg h1]
theorem dCells_entry {s t : Nst} (h : r < 32) (hs : t.s r = c) {v : Int} (hv : t.v c = v) (ho : ∀ q, q < 32 → q ≠ r → t.s q = s.s q ∧ t.v (t.s q) = s.v (s.s q)) (vl : Value) :
    ((dCells s vl).toList.take (4 * r) ++ [Value.int .i64 (r : Int), Value.int .i64 (c : Int), Value.int .u64 v, Value.bool true] ++ (dCells s vl).toList.drop (4 * r + [Value.int .i64 (r : Int), Value.int .i64 (c : Int), Value.int .u64 v, Value.bool true].length)).toArray = dCells t vl := by
  refine rowK_part (by show 4 * r + 4 ≤ 129; omega) (fun j u hu => ?_) fun k hk hne => ?_
  · match j, hu with
    | 0, hu =>
      unfold dCell
      rw [if_pos (by omega), if_pos (by omega), show (4 * r + 0) / 4 = r by omega]
      exact Option.some.inj hu
    | 1, hu =>
      unfold dCell
      rw [if_pos (by omega), if_neg (by omega), if_pos (by omega), show (4 * r + 1) / 4 = r by omega, hs]
      exact Option.some.inj hu
    | 2, hu =>
      unfold dCell
      rw [if_pos (by omega), if_neg (by omega), if_neg (by omega), if_pos (by omega), show (4 * r + 2) / 4 = r by omega, hs, hv]
      exact Option.some.inj hu
    | 3, hu =>
      unfold dCell
      rw [if_pos (by omega), if_neg (by omega), if_neg (by omega), if_neg (by omega)]
      exact Option.some.inj hu
  · have hne : k < 4 * r ∨ 4 * r + 4 ≤ k := hne
    unfold dCell
    by_cases h1 : k < 128
    · rw [if_pos h1, if_pos h1]
      obtain ⟨a, b⟩ := ho (k / 4) (by omega) (by omega)
      rw [b, a]
    · rw [if_neg h1, if_neg h1]
end

/-! ### Claims -/
def ncCells (k : Nat × Nat) : List Value := [.int .i64 (k.1 : Int), .int .i64 (k.2 : Int)]
def cellsNc (l : List (Nat × Nat)) : List Value := l.flatMap ncCells
def neCells (v : Nat → Int) (y : Nat → Bool) (k : Nat × Nat) : List Value := [.int .i64 (k.1 : Int), .int .i64 (k.2 : Int), .int .u64 (v k.2), .bool (y k.2)]
def cellsNe (v : Nat → Int) (y : Nat → Bool) (l : List (Nat × Nat)) : List Value := l.flatMap (neCells v y)
theorem cellsNc_len (l : List (Nat × Nat)) : (cellsNc l).length = l.length * 2 := flat_len ncCells 2 (fun _ => rfl) l
theorem cellsNe_len (v : Nat → Int) (y : Nat → Bool) (l : List (Nat × Nat)) : (cellsNe v y l).length = l.length * 4 := flat_len (neCells v y) 4 (fun _ => rfl) l
theorem cellsNc_at {l : List (Nat × Nat)} {i : Nat} (hi : i < l.length) {j : Nat} (hj : j < 2) : (cellsNc l)[i * 2 + j]? = (ncCells l[i])[j]? := by
  unfold cellsNc
  rw [flat_at ncCells 2 (fun _ => rfl) l i j hj, List.getElem?_eq_getElem hi]
  rfl
theorem cellsNe_at {v : Nat → Int} {y : Nat → Bool} {l : List (Nat × Nat)} {i : Nat} (hi : i < l.length) {j : Nat} (hj : j < 4) : (cellsNe v y l)[i * 4 + j]? = (neCells v y l[i])[j]? := by
  unfold cellsNe
  rw [flat_at (neCells v y) 4 (fun _ => rfl) l i j hj, List.getElem?_eq_getElem hi]
  rfl
theorem cellsNc_snoc (l : List (Nat × Nat)) (k : Nat × Nat) : cellsNc (l ++ [k]) = cellsNc l ++ ncCells k := by unfold cellsNc; simp
theorem cellsNe_snoc (v : Nat → Int) (y : Nat → Bool) (l : List (Nat × Nat)) (k : Nat × Nat) : cellsNe v y (l ++ [k]) = cellsNe v y l ++ neCells v y k := by unfold cellsNe; simp
theorem cellsNe_congr {v v' : Nat → Int} {y y' : Nat → Bool} {l : List (Nat × Nat)} (h : ∀ k ∈ l, v k.2 = v' k.2 ∧ y k.2 = y' k.2) : cellsNe v y l = cellsNe v' y' l := by
  unfold cellsNe
  induction l with
  | nil => rfl
  | cons a l ih =>
    rw [List.flatMap_cons, List.flatMap_cons, ih fun k hk => h k (List.mem_cons_of_mem _ hk)]
    obtain ⟨h1, h2⟩ := h a List.mem_cons_self
    unfold neCells
    rw [h1, h2]

/-! ### A head and a row -/
structure Npl where
  g : Nat
  vl : Value
def Npl.foot (p : Npl) : List Nat := p.g :: p.vl.ownBlock.toList
structure Two (C : Value → Array Value) (T e : TypeId) (z n : Nat) (xs : List Value) (p : Npl) (w : World) : Prop where
  head : Blk (C p.vl) T p.g w
  row : RowO e z p.vl n xs w
  apart : p.vl.ownBlock ≠ some p.g
/-- What became of it: it lies as it is told, in its own blocks and new ones; nothing else turned. -/
def UpT (R : Npl → World → Prop) (p : Npl) (w w' : World) : Prop := ∃ p', R p' w' ∧ p'.g = p.g ∧ (∀ k ∈ p'.foot, k ∈ p.foot ∨ w.heap.size ≤ k) ∧ Fr p.foot w w'
section
variable {C : Value → Array Value} {T e : TypeId} {z n : Nat} {xs : List Value} {p : Npl} {w w' : World}
theorem Two.lt (h : Two C T e z n xs p w) : ∀ k ∈ p.foot, k < w.heap.size := by
  intro k hk
  simp only [Npl.foot, List.mem_cons, Option.mem_toList] at hk
  rcases hk with rfl | hk
  · exact h.head.lt
  · exact h.row.lt hk
theorem Two.fr {F : List Nat} (h : Two C T e z n xs p w) (k : Fr F w w') (hF : ∀ i ∈ p.foot, i ∉ F) : Two C T e z n xs p w' :=
  ⟨k.blk h.head (hF p.g (by simp [Npl.foot])), h.row.fr k (fun g hg => hF g (by simp [Npl.foot, hg])), h.apart⟩
theorem Two.on (h : Two C T e z n xs p w) (k : Below w.heap.size w w') : Two C T e z n xs p w' := h.fr (Fr.of [] k) (fun _ _ hi => by cases hi)
theorem foot_head (p : Npl) : p.g ∈ p.foot := by simp [Npl.foot]
theorem foot_row {p : Npl} {g : Nat} (h : p.vl.ownBlock = some g) : g ∈ p.foot := by simp [Npl.foot, h]
/-- The head is written over. -/
theorem Two.turn {C' : Value → Array Value} (h : Two C T e z n xs p w) (hb : Blk (C' p.vl) T p.g w') (k : Fr [p.g] w w') : Two C' T e z n xs p w' :=
  ⟨hb, h.row.fr k (fun g hg hm => h.apart (by rw [hg, List.mem_singleton.1 hm])), h.apart⟩
/-- Another row, and the head tells of it. -/
theorem Two.newRow {C' : Value → Array Value} {n' : Nat} {xs' : List Value} {v' : Value} {i : Nat} (h : Two C T e z n xs p w) (hr : RowO e z v' n' xs' w') (hg : w.grownBy w' p.vl.ownBlock) (hat : v'.ownBlock = p.vl.ownBlock ∨ ∃ g, v'.ownBlock = some g ∧ w.heap.size ≤ g)
    (hset : ∀ u, (C p.vl).setIfInBounds i u = C' u) : Two C' T e z n' xs' ⟨p.g, v'⟩ (w'.setCell ⟨p.g, i, none⟩ v') ∧ (∀ k ∈ (Npl.mk p.g v').foot, k ∈ p.foot ∨ w.heap.size ≤ k) ∧ Fr p.foot w (w'.setCell ⟨p.g, i, none⟩ v') := by
  have hap : v'.ownBlock ≠ some p.g := by
    rcases hat with h1 | ⟨g, h1, h2⟩
    · rw [h1]; exact h.apart
    · rw [h1]
      intro he
      injection he with he
      have := h.head.lt
      omega
  have hb : Blk (C p.vl) T p.g w' := (hg.block p.g h.head.lt (fun he => h.apart he.symm)).trans h.head
  have hb2 := hb.set i v'
  rw [hset] at hb2
  have hf : Fr p.foot w w' := (Fr.refl p.foot w).grown hg (fun j hj => .inl (foot_row hj))
  refine ⟨⟨hb2, hr.fr ((Fr.refl [p.g] w').setCell (.inl (by simp)) _) (fun g hg hm => hap (by rw [hg, List.mem_singleton.1 hm])), hap⟩, ?_, hf.setCell (.inl (foot_head p)) _⟩
  intro k hk
  simp only [Npl.foot, List.mem_cons, Option.mem_toList] at hk
  rcases hk with rfl | hk
  · exact .inl (foot_head p)
  · rcases hat with h1 | ⟨g, h1, h2⟩
    · exact .inl (foot_row (h1.symm.trans hk))
    · rw [h1] at hk
      injection hk with hk
      exact .inr (by omega)
end
section
variable {R R' : Npl → World → Prop} {p : Npl} {w w' w2 : World}
theorem UpT.same (h : R p w') (k : Fr p.foot w w') : UpT R p w w' := ⟨p, h, rfl, fun _ hk => .inl hk, k⟩
theorem UpT.on (h : UpT R p w w') (hR : ∀ q, R q w' → R q w2) (k : Below w'.heap.size w' w2) : UpT R p w w2 := by
  obtain ⟨q, a, b, c, d⟩ := h
  exact ⟨q, hR q a, b, c, d.on k⟩
theorem UpT.ahead (k : Below w.heap.size w w') (h : UpT R p w' w2) : UpT R p w w2 := by
  obtain ⟨q, a, b, c, d⟩ := h
  exact ⟨q, a, b, fun i hi => (c i hi).imp id (fun h => Nat.le_trans k.size h), (Fr.of p.foot k).trans d (fun i hi => .inl hi)⟩
end
def NAt (s : Nst) (p : Npl) (w : World) : Prop := Two (nCells s) 58 61 2 s.l.length (cellsNc s.l) p w
def RnAt (s : Nst) (p : Npl) (w : World) : Prop := Two (dCells s) 37 33 4 s.l.length (cellsNe s.v s.y s.l) p w
end Go.Proofs.Ytoahejjeihmiiaa
