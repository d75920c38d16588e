/- Stage 16, plain: slots of a flight, their cells; what each function answers; what the law says of it. -/
import Derived.Test.YtoaonoflekcccaaDoorOg
import Derived.Test.YtoaonoflekcccaaDoorOp5
import Derived.Test.YtoaonoflekcccaaDoorRng
set_option maxRecDepth 100000
set_option linter.unusedVariables false
namespace Go.Proofs.YtoaonoflekcccaaDoor
open Go.RowKit

structure Slt where
  op : Int
  pred : Int
  succ : Int
  aq : Bool
  id : Int
  known : Bool
  addr : Int
  ready : Bool
  data : Int
  bound : Bool
  t : Nat → Int
def sltC (x : Slt) : Array Value := #[.int .i64 x.op, .int .i64 x.pred, .int .i64 x.succ, .bool x.aq, .int .i64 x.id, .bool x.known, .int .i64 x.addr, .bool x.ready, .int .u64 x.data, .bool x.bound, .int .i64 (x.t 0), .int .i64 (x.t 1), .int .i64 (x.t 2), .int .i64 (x.t 3), .int .i64 (x.t 4), .int .i64 (x.t 5), .int .i64 (x.t 6), .int .i64 (x.t 7)]
structure Wslt (x : Slt) : Prop where
  op : I64 x.op
  addr : I64 x.addr
def Wslts (l : List Slt) : Prop := ∀ x ∈ l, Wslt x
def cellsS (l : List Slt) : List Value := l.flatMap fun x => (sltC x).toList
def ldS (x : Slt) : Bool := decide (srt x.op = 4)
def stS (x : Slt) : Bool := decide (srt x.op = 5)
def atS (x : Slt) : Bool := decide (10 ≤ srt x.op)
def roomS (x : Slt) : Int := if x.known = true ∧ 0 ≤ x.addr ∧ x.addr ≤ 1099511627776 then siz x.op else 0
def idxS (x : Slt) (a : Int) : Int := if x.addr ≤ a ∧ a < x.addr + roomS x then a - x.addr else -1
def ovS (x y : Slt) : Bool := x.known && y.known && ovl x.addr (siz x.op) y.addr (siz y.op)
def prR (x : Slt) : Bool := bits .and .i64 x.pred 2 != 0
def prW (x : Slt) : Bool := bits .and .i64 x.pred 1 != 0
def suR (x : Slt) : Bool := bits .and .i64 x.succ 2 != 0
def keepS (x : Slt) : Bool := decide (x.op = 51) || decide (x.op = 50) && suR x
/-- Pending: reads, writes. -/
def addP (p : Bool × Bool) (x : Slt) : Bool × Bool := (p.1 || ldS x && !x.bound || atS x, p.2 || stS x || atS x)
def stopP (p : Bool × Bool) (f : Slt) : Bool := if f.op = 51 then p.1 else p.1 && prR f || p.2 && prW f
def pndP (e : Bool) (l : List Slt) : Bool × Bool := l.foldl addP (false, !e)
def fenG : Bool × Bool → List Slt → Bool
  | _, [] => false
  | p, x :: l => keepS x && stopP p x || fenG (addP p x) l
def zSlt : Slt := ⟨0, 0, 0, false, 0, false, 0, false, 0, false, fun _ => 0⟩
def sAt (l : List Slt) (i : Nat) : Slt := l[i]?.getD zSlt
/-- The last of the first n that has the byte. -/
def srcG (l : List Slt) (a : Int) : Nat → Int
  | 0 => -1
  | n + 1 => if stS (sAt l n) = true ∧ idxS (sAt l n) a ≠ -1 then (n : Int) else srcG l a n
def srcS (l : List Slt) (i k : Int) : Int := if 0 ≤ i ∧ i < l.length ∧ 0 ≤ k ∧ k < roomS (sAt l i.toNat) then srcG l ((sAt l i.toNat).addr + k) i.toNat else -1
/-- One of the first n bytes is of a store that isn't ready. -/
def lckG (l : List Slt) (i : Nat) : Nat → Bool
  | 0 => false
  | n + 1 => lckG l i n || (decide (srcS l i n ≠ -1) && !(sAt l (srcS l i n).toNat).ready)
def lckS (l : List Slt) (i : Nat) : Bool := lckG l i (roomS (sAt l i)).toNat
def passS (l : List Slt) (i : Int) (e : Bool) : Bool := decide (0 ≤ i ∧ i < l.length ∧ srt (sAt l i.toNat).op = 8) && !stopP (pndP e (l.take i.toNat)) (sAt l i.toNat)
def aqS (l : List Slt) : Bool := l.any fun y => atS y && y.aq
def aoS (l : List Slt) (x : Slt) : Bool := l.any fun y => atS y && ovS y x
def waitS (l : List Slt) (i : Int) (e : Bool) : Int :=
  if 0 ≤ i ∧ i < l.length ∧ ldS (sAt l i.toNat) = true ∧ (sAt l i.toNat).known = true ∧ (sAt l i.toNat).bound = false then
    if aqS (l.take i.toNat) = true then 1 else if fenG (false, !e) (l.take i.toNat) = true then 2 else if aoS (l.take i.toNat) (sAt l i.toNat) = true then 3 else if lckS l i.toNat = true then 4 else 0
  else -1
/-- The first from j on, m steps at most. -/
def claG (l : List Slt) (x : Slt) : Nat → Nat → Int
  | 0, _ => -1
  | m + 1, j => if ldS (sAt l j) = true ∧ (sAt l j).bound = true ∧ ovS x (sAt l j) = true then (j : Int) else claG l x m (j + 1)
def claS (l : List Slt) (i : Int) : Int :=
  if 0 ≤ i ∧ i < l.length ∧ (stS (sAt l i.toNat) = true ∨ atS (sAt l i.toNat) = true) then claG l (sAt l i.toNat) (l.length - (i.toNat + 1)) (i.toNat + 1) else -1
/-- Reorder's inner walk over the bytes k .. of slot y: a byte unlike its elder's, or the bytes that are hidden behind it. -/
def reoK (x y : Slt) : Nat → Nat → (Nat → Bool) → Bool × (Nat → Bool)
  | 0, _, h => (false, h)
  | m + 1, k, h =>
    if idxS y (x.addr + k) = -1 then reoK x y m (k + 1) h
    else if stS y = true then reoK x y m (k + 1) (fun q => if q = k then true else h q)
    else if ldS y = false ∨ y.bound = false then (false, h)
    else if h k = false ∧ y.t (idxS y (x.addr + k)).toNat ≠ x.t k then (true, h)
    else reoK x y m (k + 1) h
def reoG (l : List Slt) (x : Slt) : Nat → Nat → (Nat → Bool) → Int
  | 0, _, _ => -1
  | m + 1, j, h => if (reoK x (sAt l j) (roomS x).toNat 0 h).1 = true then (j : Int) else reoG l x m (j + 1) (reoK x (sAt l j) (roomS x).toNat 0 h).2
def reoS (l : List Slt) (i : Int) : Int :=
  if 0 ≤ i ∧ i < l.length ∧ ldS (sAt l i.toNat) = true ∧ (sAt l i.toNat).bound = true then reoG l (sAt l i.toNat) (l.length - (i.toNat + 1)) (i.toNat + 1) (fun _ => false) else -1

/-! ### What the law says -/
theorem sAt_take {l : List Slt} {k i : Nat} (h : i < k) : sAt (l.take k) i = sAt l i := by unfold sAt; rw [List.getElem?_take_of_lt h]
theorem srcG_take (l : List Slt) (a : Int) (k : Nat) : ∀ n, n ≤ k → srcG (l.take k) a n = srcG l a n
  | 0, _ => rfl
  | n + 1, h => by
    show (if _ then _ else _) = (if _ then _ else _)
    rw [sAt_take (by omega), srcG_take l a k n (by omega)]
theorem take_len {X : Type} (l : List X) {k : Nat} (h : k ≤ l.length) : (l.take k).length = k := by rw [List.length_take]; omega
theorem srcS_take {l : List Slt} {k : Nat} (h : k < l.length) (n : Int) : srcS (l.take (k + 1)) k n = srcS l k n := by
  unfold srcS
  rw [take_len l (by omega), Int.toNat_natCast, sAt_take (by omega), srcG_take l _ _ k (by omega)]
  have e1 : ((k : Int) < ((k + 1 : Nat) : Int)) = True := eq_true (by omega)
  have e2 : ((k : Int) < (l.length : Int)) = True := eq_true (by omega)
  simp only [e1, e2]
theorem srcG_lt (l : List Slt) (a : Int) : ∀ n : Nat, srcG l a n < n ∧ -1 ≤ srcG l a n
  | 0 => by unfold srcG; omega
  | n + 1 => by
    have := srcG_lt l a n
    show (if _ then _ else _) < _ ∧ _ ≤ (if _ then _ else _)
    split <;> omega
theorem srcS_lt (l : List Slt) (i : Nat) (k : Int) (h : 0 ≤ i) : srcS l i k < i ∧ -1 ≤ srcS l i k := by
  unfold srcS
  split
  · rename_i c; have := srcG_lt l ((sAt l (i : Int).toNat).addr + k) (i : Int).toNat; omega
  · omega
theorem lckG_take {l : List Slt} {k : Nat} (h : k < l.length) : ∀ n, lckG (l.take (k + 1)) k n = lckG l k n
  | 0 => rfl
  | n + 1 => by
    show (_ || _) = (_ || _)
    rw [lckG_take h n, srcS_take h]
    have := srcS_lt l k n (by omega)
    by_cases hs : srcS l k n = -1
    · simp [hs]
    · rw [sAt_take (by omega)]
theorem lckS_take {l : List Slt} {k : Nat} (h : k < l.length) : lckS (l.take (k + 1)) k = lckS l k := by
  unfold lckS
  rw [sAt_take (by omega), lckG_take h]
theorem waitS_take {l : List Slt} {k : Nat} (h : k < l.length) (e : Bool) : waitS (l.take (k + 1)) k e = waitS l k e := by
  unfold waitS
  rw [take_len l (by omega), Int.toNat_natCast, sAt_take (by omega), lckS_take h, List.take_take, Nat.min_eq_left (by omega)]
  have e1 : ((k : Int) < ((k + 1 : Nat) : Int)) = True := eq_true (by omega)
  have e2 : ((k : Int) < (l.length : Int)) = True := eq_true (by omega)
  simp only [e1, e2]
theorem passS_take {l : List Slt} {k : Nat} (h : k < l.length) (e : Bool) : passS (l.take (k + 1)) k e = passS l k e := by
  unfold passS
  rw [take_len l (by omega), Int.toNat_natCast, sAt_take (by omega), List.take_take, Nat.min_eq_left (by omega)]
  have e1 : ((k : Int) < ((k + 1 : Nat) : Int)) = True := eq_true (by omega)
  have e2 : ((k : Int) < (l.length : Int)) = True := eq_true (by omega)
  simp only [e1, e2]
def bndS (x : Slt) : Slt := { x with bound := true }
def lessP (p q : Bool × Bool) : Prop := (p.1 = true → q.1 = true) ∧ (p.2 = true → q.2 = true)
theorem fold_less (f : Slt → Slt) (hf : ∀ p q x, lessP p q → lessP (addP p (f x)) (addP q x)) : ∀ (l : List Slt) (p q : Bool × Bool), lessP p q → lessP ((l.map f).foldl addP p) (l.foldl addP q)
  | [], _, _, h => h
  | x :: l, p, q, h => fold_less f hf l _ _ (hf p q x h)
theorem add_less (p q : Bool × Bool) (x : Slt) (h : lessP p q) : lessP (addP p (bndS x)) (addP q x) := by
  obtain ⟨p1, p2⟩ := p; obtain ⟨q1, q2⟩ := q
  unfold lessP addP bndS ldS stS atS at *
  simp only at *
  obtain ⟨h1, h2⟩ := h
  constructor <;> intro hh <;> simp at hh ⊢
  · rcases hh with hh | hh
    · exact .inl (.inl (h1 hh))
    · exact .inr hh
  · rcases hh with (hh | hh) | hh
    · exact .inl (.inl (h2 hh))
    · exact .inl (.inr hh)
    · exact .inr hh
theorem add_less' (p q : Bool × Bool) (x : Slt) (h : lessP p q) : lessP (addP p x) (addP q x) := by
  obtain ⟨p1, p2⟩ := p; obtain ⟨q1, q2⟩ := q
  unfold lessP addP at *
  simp only at *
  obtain ⟨h1, h2⟩ := h
  constructor <;> intro hh <;> simp at hh ⊢
  · rcases hh with (hh | hh) | hh
    · exact .inl (.inl (h1 hh))
    · exact .inl (.inr hh)
    · exact .inr hh
  · rcases hh with (hh | hh) | hh
    · exact .inl (.inl (h2 hh))
    · exact .inl (.inr hh)
    · exact .inr hh
theorem stop_less {p q : Bool × Bool} (h : lessP p q) (x : Slt) (hs : stopP q x = false) : stopP p x = false := by
  obtain ⟨p1, p2⟩ := p; obtain ⟨q1, q2⟩ := q
  unfold stopP lessP at *
  simp only at *
  obtain ⟨h1, h2⟩ := h
  split
  · rename_i c; rw [if_pos c] at hs; cases p1 <;> simp_all
  · rename_i c; rw [if_neg c] at hs; cases p1 <;> cases p2 <;> simp_all
theorem sAt_map {l : List Slt} {k : Nat} (h : k < l.length) : sAt (l.map bndS) k = bndS (sAt l k) := by unfold sAt; rw [List.getElem?_map, List.getElem?_eq_getElem h]; rfl
theorem stop_bnd (p : Bool × Bool) (x : Slt) : stopP p (bndS x) = stopP p x := rfl
/-- A fence that has passed has so when more is bound. -/
theorem passS_bnd {l : List Slt} {k : Nat} {e : Bool} (h : passS l k e = true) : passS (l.map bndS) k e = true ∧ passS l k true = true := by
  unfold passS at *
  simp only [Bool.and_eq_true, decide_eq_true_eq, Bool.not_eq_true', Int.toNat_natCast] at *
  obtain ⟨⟨h0, h1, h2⟩, h3⟩ := h
  have hk : k < l.length := by omega
  refine ⟨⟨⟨h0, by rw [List.length_map]; exact h1, by rw [sAt_map hk]; exact h2⟩, ?_⟩, ⟨h0, h1, h2⟩, ?_⟩
  · rw [sAt_map hk, stop_bnd, ← List.map_take]
    exact stop_less (fold_less bndS add_less _ _ _ ⟨id, id⟩) _ h3
  · refine stop_less ?_ _ h3
    have := fold_less (fun x => x) (fun p q x h => add_less' p q x h) (l.take k) (false, !true) (false, !e) ⟨id, by simp⟩
    rw [List.map_id'] at this
    exact this
end Go.Proofs.YtoaonoflekcccaaDoor
