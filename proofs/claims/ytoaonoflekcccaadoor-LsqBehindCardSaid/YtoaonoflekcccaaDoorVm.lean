/- A core's stores on their way to memory: entries and the epoch as data, and how they lie in blocks. -/
import Derived.Test.YtoaonoflekcccaaDoorMm
import Derived.Test.YtoaonoflekcccaaDoorHk
set_option maxRecDepth 100000
namespace Go.Proofs.YtoaonoflekcccaaDoor
open Go.RowKit

/-! ### Plain -/
structure Ent where
  ep : Int
  st : List Wr
structure Bst where
  es : List Ent
  ep : Int
def ent0 : Ent := ⟨0, []⟩
def bkN (x : Wr) : Int := x.addr / 8
def mayW (x : Wr) : Bool := decide (0 ≤ x.id) && (alg x.addr x.size && decide (x.addr ≤ 1024))
/-- The last store of which something is so, and the place of its entry, among the first k entries. -/
def seekU (f : Wr → Bool) (es : List Ent) : Nat → Option (Nat × Wr)
  | 0 => none
  | k + 1 => match (es.getD k ent0).st.reverse.find? f with
    | some x => some (k, x)
    | none => seekU f es k
def seekN (f : Wr → Bool) (es : List Ent) : Option (Nat × Wr) := seekU f es es.length
def sameBk (x y : Wr) : Bool := decide (bkN y = bkN x)
def placeN (s : Bst) (x : Wr) : Nat × Bool :=
  if mayW x = true then
    match seekN (sameBk x) s.es with
    | some q => if (s.es.getD q.1 ent0).ep = s.ep then (q.1, decide ((s.es.getD q.1 ent0).st.length < 8)) else (s.es.length, decide (s.es.length < 4))
    | none => (s.es.length, decide (s.es.length < 4))
  else (0, false)
def putB (s : Bst) (x : Wr) : Bst :=
  if (placeN s x).2 = true then
    if (placeN s x).1 = s.es.length then ⟨s.es ++ [⟨s.ep, [low x]⟩], s.ep⟩
    else ⟨s.es.set (placeN s x).1 ⟨(s.es.getD (placeN s x).1 ent0).ep, (s.es.getD (placeN s x).1 ent0).st ++ [low x]⟩, s.ep⟩
  else s
def barB (s : Bst) : Bst := if 0 < s.es.length ∧ (s.es.getD (s.es.length - 1) ent0).ep = s.ep then ⟨s.es, s.ep + 1⟩ else s
def readyN (s : Bst) : List Nat := (List.range s.es.length).filter fun k => decide ((s.es.getD k ent0).ep = (s.es.getD 0 ent0).ep)
def mayGo (s : Bst) (k : Int) : Bool := decide (0 ≤ k ∧ k < s.es.length) && decide ((s.es.getD k.toNat ent0).ep = (s.es.getD 0 ent0).ep)
def draB (s : Bst) (k : Int) : Bst := if mayGo s k = true then ⟨s.es.eraseIdx k.toNat, s.ep⟩ else s
def outB (s : Bst) (k : Int) : List Wr := if mayGo s k = true then (s.es.getD k.toNat ent0).st else []
def eldB (s : Bst) : Bool := decide (0 < s.es.length) && decide ((s.es.getD 0 ent0).ep < s.ep)
def hasAt (q : Int) (x : Wr) : Bool := decide (x.addr ≤ q) && decide (q < x.addr + x.size)
def ovAt (a z : Int) (x : Wr) : Bool := ovl x.addr x.size a z
def flatE (es : List Ent) : List Wr := es.flatMap Ent.st
/-- A store that stands in a buffer. -/
structure StOk (x : Wr) : Prop where
  may : mayW x = true
  data : 0 ≤ x.data ∧ x.data < 2 ^ 64
theorem mayW_out {x : Wr} (h : mayW x = true) : 0 ≤ x.id ∧ (x.size = 1 ∨ x.size = 2 ∨ x.size = 4 ∨ x.size = 8) ∧ 0 ≤ x.addr ∧ x.addr % x.size = 0 ∧ x.addr ≤ 1024 := by
  unfold mayW alg at h
  simp only [Bool.and_eq_true, decide_eq_true_eq] at h
  exact ⟨h.1, h.2.1.1, h.2.1.2.1, h.2.1.2.2, h.2.2⟩
/-- What a buffer is, as it may be. -/
structure BsOk (s : Bst) : Prop where
  len : s.es.length ≤ 4
  some : ∀ e ∈ s.es, 0 < e.st.length ∧ e.st.length ≤ 8
  st : ∀ e ∈ s.es, ∀ x ∈ e.st, StOk x
  blk : ∀ e ∈ s.es, ∀ x ∈ e.st, ∀ y ∈ e.st, bkN x = bkN y
  ep : ∀ e ∈ s.es, 0 ≤ e.ep ∧ e.ep ≤ s.ep
  sort : s.es.Pairwise fun a b => a.ep ≤ b.ep
  key : s.es.Pairwise fun a b => a.ep = b.ep → ∀ x ∈ a.st, ∀ y ∈ b.st, bkN x ≠ bkN y
  ep0 : 0 ≤ s.ep
theorem BsOk.zero : BsOk ⟨[], 0⟩ := ⟨by simp, by simp, by simp, by simp, by simp, .nil, .nil, by simp⟩
theorem seekU_flat (f : Wr → Bool) (es : List Ent) : ∀ k, k ≤ es.length → (seekU f es k).map Prod.snd = (flatE (es.take k)).reverse.find? f
  | 0, _ => by simp [seekU, flatE]
  | k + 1, h => by
    have e1 : es.getD k ent0 = es[k] := by rw [List.getD_eq_getElem?_getD, List.getElem?_eq_getElem (by omega)]; rfl
    have e2 : flatE (es.take (k + 1)) = flatE (es.take k) ++ es[k].st := by
      unfold flatE
      rw [List.take_succ_eq_append_getElem (by omega), List.flatMap_append]; simp
    rw [e2, List.reverse_append, List.find?_append, seekU, e1]
    cases hf : es[k].st.reverse.find? f with
    | some x => rfl
    | none => simpa using seekU_flat f es k (by omega)
theorem seekN_flat (f : Wr → Bool) (es : List Ent) : (seekN f es).map Prod.snd = (flatE es).reverse.find? f := by
  have := seekU_flat f es es.length (Nat.le_refl _)
  rwa [List.take_length] at this
theorem seekU_some {f : Wr → Bool} {es : List Ent} : ∀ {k : Nat} {q : Nat × Wr}, seekU f es k = some q → q.1 < k ∧ q.2 ∈ (es.getD q.1 ent0).st ∧ f q.2 = true ∧ ∀ j, q.1 < j → j < k → ∀ y ∈ (es.getD j ent0).st, f y = false
  | 0, _, h => by cases h
  | k + 1, q, h => by
    rw [seekU] at h
    cases hf : (es.getD k ent0).st.reverse.find? f with
    | some x =>
      rw [hf] at h
      cases h
      exact ⟨Nat.lt_succ_self _, List.mem_reverse.1 (List.mem_of_find?_eq_some hf), List.find?_some hf, fun j h1 h2 => by omega⟩
    | none =>
      rw [hf] at h
      obtain ⟨h1, h2, h3, h4⟩ := seekU_some h
      refine ⟨by omega, h2, h3, fun j hj hk y hy => ?_⟩
      by_cases e : j = k
      · subst e
        have := List.find?_eq_none.1 hf y (List.mem_reverse.2 hy)
        simpa using this
      · exact h4 j hj (by omega) y hy
theorem seekU_none {f : Wr → Bool} {es : List Ent} : ∀ {k : Nat}, seekU f es k = none → ∀ j, j < k → ∀ y ∈ (es.getD j ent0).st, f y = false
  | 0, _ => by intro j hj; omega
  | k + 1, h => by
    rw [seekU] at h
    cases hf : (es.getD k ent0).st.reverse.find? f with
    | some x => rw [hf] at h; cases h
    | none =>
      rw [hf] at h
      intro j hj y hy
      by_cases e : j = k
      · subst e
        have := List.find?_eq_none.1 hf y (List.mem_reverse.2 hy)
        simpa using this
      · exact seekU_none h j (by omega) y hy
theorem getD_ent {es : List Ent} {k : Nat} (h : k < es.length) : es.getD k ent0 = es[k] := by rw [List.getD_eq_getElem?_getD, List.getElem?_eq_getElem h]; rfl

/-! ### How it lies -/
abbrev Lent := List (Ent × Value)
def cellsE (l : Lent) : List Value := l.flatMap fun x => [.int .i64 x.1.ep, x.2]
theorem cellsE_len (l : Lent) : (cellsE l).length = l.length * 2 := by
  unfold cellsE
  induction l with
  | nil => rfl
  | cons d l ih => simp only [List.flatMap_cons, List.length_append, ih, List.length_cons, List.length_nil]; omega
theorem cellsE_append (l m : Lent) : cellsE (l ++ m) = cellsE l ++ cellsE m := by unfold cellsE; simp
theorem cellsE_at (l : Lent) (i : Nat) (hi : i < l.length) (j : Nat) (hj : j < 2) : (cellsE l)[i * 2 + j]? = ([Value.int .i64 l[i].1.ep, l[i].2])[j]? := by
  induction l generalizing i with
  | nil => cases hi
  | cons d l ih =>
    unfold cellsE
    rw [List.flatMap_cons]
    cases i with
    | zero => rw [List.getElem?_append_left (by show _ < 2; omega)]; simp
    | succ i =>
      rw [List.getElem?_append_right (by show 2 ≤ _; omega)]
      have e : (i + 1) * 2 + j - [Value.int .i64 d.1.ep, d.2].length = i * 2 + j := by show (i + 1) * 2 + j - 2 = _; omega
      rw [e]
      exact ih i (by simpa using hi)
/-- Where a buffer lies. -/
structure Bpl where
  g : Nat
  ve : Value
  es : Lent
def Bpl.foot (p : Bpl) : List Nat := p.g :: (p.ve.ownBlock.toList ++ p.es.flatMap fun x => x.2.ownBlock.toList)
end Go.Proofs.YtoaonoflekcccaaDoor
