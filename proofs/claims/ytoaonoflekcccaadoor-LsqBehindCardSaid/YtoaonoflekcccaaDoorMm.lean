/- The memory that all share: its state as data (what was there at first, the log, the reservations), how it lies in blocks, and what keeps it there. -/
import Derived.Test.YtoaonoflekcccaaDoorRows
import Derived.Test.YtoaonoflekcccaaDoorHp
import Derived.Test.YtoaonoflekcccaaDoorWx
import Derived.Test.YtoaonoflekcccaaDoorRng
import Derived.Test.YtoaonoflekcccaaDoorRi
import Derived.WalkKit
import Derived.Below
set_option maxRecDepth 100000
namespace Go.Proofs.YtoaonoflekcccaaDoor
open Go.RowKit

/-! ### Plain -/
structure Wr where
  id : Int
  addr : Int
  size : Int
  data : Int
def wrCells (x : Wr) : Array Value := #[.int .i64 x.id, .int .i64 x.addr, .int .i64 x.size, .int .u64 x.data]
def cellsW (l : List Wr) : List Value := l.flatMap fun x => (wrCells x).toList
theorem cellsW_len (l : List Wr) : (cellsW l).length = l.length * 4 := by
  unfold cellsW
  induction l with
  | nil => rfl
  | cons d l ih => rw [List.flatMap_cons, List.length_append, ih, List.length_cons]; show 4 + _ = _; omega
theorem cellsW_append (l m : List Wr) : cellsW (l ++ m) = cellsW l ++ cellsW m := by unfold cellsW; simp
theorem cellsW_one (d : Wr) : cellsW [d] = (wrCells d).toList := by unfold cellsW; simp
theorem cellsW_at (l : List Wr) (i : Nat) (hi : i < l.length) (j : Nat) (hj : j < 4) : (cellsW l)[i * 4 + j]? = (wrCells l[i])[j]? := by
  induction l generalizing i with
  | nil => cases hi
  | cons d l ih =>
    unfold cellsW
    rw [List.flatMap_cons]
    cases i with
    | zero => rw [List.getElem?_append_left (by show _ < 4; omega)]; simp
    | succ i =>
      rw [List.getElem?_append_right (by show 4 ≤ _; omega)]
      have e : (i + 1) * 4 + j - (wrCells d).toList.length = i * 4 + j := by show (i + 1) * 4 + j - 4 = _; omega
      rw [e]
      exact ih i (by simpa using hi)
/-- Has a write the byte at a place? -/
def hasB (x : Wr) (q : Nat) : Bool := decide (x.addr ≤ (q : Int)) && decide ((q : Int) < x.addr + x.size)
def stepB (q : Nat) (p : Int × Int) (x : Wr) : Int × Int := if hasB x q = true then (byteAt x.data ((q : Int) - x.addr).toNat, x.id) else p
/-- A byte and its tag: those of the last write that has it, or those that were there at first. -/
def lastB (b0 : List Int) (l : List Wr) (q : Nat) : Int × Int := l.foldl (stepB q) (b0.getD q 0, -1)
theorem lastB_nil (b0 : List Int) (q : Nat) : lastB b0 [] q = (b0.getD q 0, -1) := rfl
theorem lastB_snoc (b0 : List Int) (l : List Wr) (x : Wr) (q : Nat) : lastB b0 (l ++ [x]) q = stepB q (lastB b0 l q) x := by simp [lastB, List.foldl_append]
theorem stepB_yes {x : Wr} {q : Nat} {p : Int × Int} (h : hasB x q = true) : stepB q p x = (byteAt x.data ((q : Int) - x.addr).toNat, x.id) := if_pos h
theorem stepB_no {x : Wr} {q : Nat} {p : Int × Int} (h : hasB x q = false) : stepB q p x = p := if_neg (by rw [h]; decide)
def bytesM (b0 : List Int) (l : List Wr) : List Int := (List.range b0.length).map fun k => (lastB b0 l k).1
def tagsM (b0 : List Int) (l : List Wr) : List Int := (List.range b0.length).map fun k => (lastB b0 l k).2
theorem bytesM_len (b0 : List Int) (l : List Wr) : (bytesM b0 l).length = b0.length := by simp [bytesM]
theorem tagsM_len (b0 : List Int) (l : List Wr) : (tagsM b0 l).length = b0.length := by simp [tagsM]
theorem bytesM_nil (b0 : List Int) : bytesM b0 [] = b0 := by
  unfold bytesM
  refine List.ext_getElem (by simp) fun k h1 h2 => ?_
  simp [lastB_nil, List.getD_eq_getElem?_getD, h2]
theorem tagsM_nil (b0 : List Int) : tagsM b0 [] = List.replicate b0.length (-1) := by
  unfold tagsM
  refine List.ext_getElem (by simp) fun k h1 h2 => ?_
  simp [lastB_nil]
/-- May a place be, in a memory of n bytes? -/
def mayP (n a z : Int) : Bool := alg a z && decide (a ≤ n - z)
theorem mayP_out {n a z : Int} (h : mayP n a z = true) : (z = 1 ∨ z = 2 ∨ z = 4 ∨ z = 8) ∧ 0 ≤ a ∧ a % z = 0 ∧ a ≤ n - z := by
  unfold mayP alg at h
  simp only [Bool.and_eq_true, decide_eq_true_eq] at h
  exact ⟨h.1.1, h.1.2.1, h.1.2.2, h.2⟩
def isHt (h : Int) : Bool := decide (0 ≤ h) && decide (h < 3)
theorem isHt_out {h : Int} (k : isHt h = true) : 0 ≤ h ∧ h < 3 := by
  unfold isHt at k
  simpa using k
/-- What a memory is: the bytes at first, the log, the reservations (two numbers a hart). -/
structure Mst where
  b0 : List Int
  l : List Wr
  r : Nat → Int
def Mst.n (s : Mst) : Int := s.b0.length
def low (x : Wr) : Wr := ⟨x.id, x.addr, x.size, zx x.data (8 * x.size.toNat)⟩
def stoOk (n h : Int) (x : Wr) : Bool := mayP n x.addr x.size && (decide (0 ≤ x.id) && isHt h)
def endR (h a z : Int) (r : Nat → Int) : Nat → Int := fun k => if ((k / 2 : Nat) : Int) ≠ h ∧ ovl (r (2 * (k / 2))) (r (2 * (k / 2) + 1)) a z = true then 0 else r k
def setR (h : Nat) (a z : Int) (r : Nat → Int) : Nat → Int := fun k => if k = 2 * h then a else if k = 2 * h + 1 then z else r k
def stoM (s : Mst) (h : Int) (x : Wr) : Mst := if stoOk s.n h x = true then ⟨s.b0, s.l ++ [low x], endR h x.addr x.size s.r⟩ else s
def resM (s : Mst) (h a z : Int) : Mst := if (mayP s.n a z && isHt h) = true then ⟨s.b0, s.l, setR h.toNat a z s.r⟩ else s
def droM (s : Mst) (h : Int) : Mst := if isHt h = true then ⟨s.b0, s.l, setR h.toNat 0 0 s.r⟩ else s
def helM (s : Mst) (h a z : Int) : Bool := mayP s.n a z && (isHt h && ((s.r (2 * h.toNat) == a) && (s.r (2 * h.toNat + 1) == z)))
/-- A write that stands on a log. -/
structure WrOk (n : Int) (x : Wr) : Prop where
  may : mayP n x.addr x.size = true
  id : 0 ≤ x.id
  data : 0 ≤ x.data ∧ x.data < 2 ^ 64
/-- What a memory is, as it may be. -/
structure MsOk (s : Mst) : Prop where
  n : s.b0.length ≤ 1024
  byts : Byts s.b0
  log : ∀ x ∈ s.l, WrOk s.n x

/-! ### Worlds: what turns is among some blocks -/
structure Fr (F : List Nat) (w w' : World) : Prop where
  os : w'.os = w.os
  tape : w'.tape = w.tape
  output : w'.output = w.output
  size : w.heap.size ≤ w'.heap.size
  block : ∀ k, k < w.heap.size → k ∉ F → w'.heap[k]? = w.heap[k]?
theorem Fr.of {w w' : World} (F : List Nat) (h : Below w.heap.size w w') : Fr F w w' := ⟨h.os, h.tape, h.output, h.size, fun k hk _ => h.block k hk⟩
theorem Fr.refl (F : List Nat) (w : World) : Fr F w w := ⟨rfl, rfl, rfl, Nat.le_refl _, fun _ _ _ => rfl⟩
theorem Fr.trans {F G : List Nat} {a b c : World} (h : Fr F a b) (k : Fr G b c) (hG : ∀ i ∈ G, i ∈ F ∨ a.heap.size ≤ i) : Fr F a c :=
  ⟨k.os.trans h.os, k.tape.trans h.tape, k.output.trans h.output, Nat.le_trans h.size k.size, fun i hi hn =>
    (k.block i (Nat.lt_of_lt_of_le hi h.size) (fun hm => by rcases hG i hm with h1 | h1; exact hn h1; omega)).trans (h.block i hi hn)⟩
theorem Fr.on {F : List Nat} {a b c : World} (h : Fr F a b) (k : Below b.heap.size b c) : Fr F a c := h.trans (Fr.of [] k) (fun i hi => by cases hi)
theorem Fr.grown {F : List Nat} {a b c : World} {row : Option Nat} (h : Fr F a b) (k : b.grownBy c row) (hr : ∀ i, row = some i → i ∈ F ∨ a.heap.size ≤ i) : Fr F a c :=
  h.trans (G := row.toList) ⟨k.os, k.tape, k.output, k.size, fun i hi hn => k.block i hi (fun e => hn (by rw [← e]; simp))⟩ (fun i hi => hr i (by simpa using hi))
theorem Fr.alloc {F : List Nat} {a b : World} (h : Fr F a b) (o : Obj) : Fr F a (b.alloc o) := h.on (Below.alloc (Below.refl _ _) (Nat.le_refl _) o)
theorem Fr.drew {F : List Nat} {a b : World} (h : Fr F a b) : Fr F a b.drew := h.on (Below.drew (Below.refl _ _))
theorem Fr.setCell {F : List Nat} {a b : World} (h : Fr F a b) {p : Addr} (hp : p.block ∈ F ∨ a.heap.size ≤ p.block) (u : Value) : Fr F a (b.setCell p u) :=
  h.trans (G := [p.block]) ⟨rfl, rfl, rfl, by simp [World.setCell], fun k hk hn => Below.heap_setCell _ _ _ _ (by simpa using hn)⟩ (fun i hi => by
    obtain rfl : i = p.block := by simpa using hi
    exact hp)
theorem Fr.below {F : List Nat} {w w' : World} (h : Fr F w w') {B : Nat} (hF : ∀ i ∈ F, B ≤ i) (hB : B ≤ w.heap.size) : Below B w w' :=
  ⟨h.os, h.tape, h.output, h.size, fun k hk => h.block k (by omega) (fun hm => by have := hF k hm; omega)⟩
theorem Fr.blk {F : List Nat} {w w' : World} {cs : Array Value} {t : TypeId} {g : Nat} (h : Fr F w w') (hb : Blk cs t g w) (hg : g ∉ F) : Blk cs t g w' := (h.block g hb.lt hg).trans hb
theorem Fr.row {F : List Nat} {w w' : World} {base z n : Nat} {e : TypeId} {v : Value} {xs : List Value} (h : Fr F w w') (ho : w.ownsRow base e z v n xs) (hg : ∀ k, v.ownBlock = some k → k ∉ F) : w'.ownsRow base e z v n xs := by
  refine ⟨ho.1, ?_⟩
  rcases ho.2 with hn | ⟨g, cap, cur, rfl, hb, hgg, rest⟩
  · exact .inl hn
  · refine .inr ⟨g, cap, cur, rfl, hb, ?_, rest⟩
    rw [h.block g (Array.getElem?_eq_some_iff.1 hgg).1 (hg g rfl)]
    exact hgg

/-! ### How it lies -/
/-- A row at the head of a block, maybe with more behind it. -/
def RowB (e : TypeId) (xs : List Value) (g : Nat) (w : World) : Prop := ∃ ys : List Value, Blk (xs ++ ys).toArray e g w
theorem RowB.lt {e : TypeId} {xs : List Value} {g : Nat} {w : World} (h : RowB e xs g w) : g < w.heap.size := by obtain ⟨_, h⟩ := h; exact h.lt
theorem RowB.cell {e : TypeId} {xs : List Value} {g : Nat} {w : World} (h : RowB e xs g w) {k : Nat} (hk : k < xs.length) : w.cell? ⟨g, k, none⟩ = some xs[k] := by
  obtain ⟨ys, h⟩ := h
  rw [h.cell k]
  simp [List.getElem?_append_left hk, hk]
theorem RowB.free {e : TypeId} {xs : List Value} {g : Nat} {w : World} (h : RowB e xs g w) (k : Nat) : w.frozen? ⟨g, k, none⟩ = false := by obtain ⟨_, h⟩ := h; exact h.free k
theorem RowB.fr {F : List Nat} {w w' : World} {e : TypeId} {xs : List Value} {g : Nat} (h : RowB e xs g w) (k : Fr F w w') (hg : g ∉ F) : RowB e xs g w' := by
  obtain ⟨ys, h⟩ := h
  exact ⟨ys, k.blk h hg⟩
theorem RowB.set {e : TypeId} {xs : List Value} {g : Nat} {w : World} (h : RowB e xs g w) {k : Nat} (hk : k < xs.length) (v : Value) : RowB e (xs.set k v) g (w.setCell ⟨g, k, none⟩ v) := by
  obtain ⟨ys, h⟩ := h
  refine ⟨ys, ?_⟩
  have := h.set k v
  rw [show ((xs ++ ys).toArray.setIfInBounds k v) = (xs.set k v ++ ys).toArray by simp [List.set_append_left, hk]] at this
  exact this
theorem RowB.rd {e : TypeId} {xs : List Value} {g : Nat} {w : World} (h : RowB e xs g w) : Rd w w.heap.size (some ⟨g, 0, none⟩) xs := by
  refine .inr ⟨g, 0, rfl, h.lt, fun i v hv => ?_⟩
  obtain ⟨hi, rfl⟩ := List.getElem?_eq_some_iff.1 hv
  rw [Nat.zero_add]
  exact h.cell hi
theorem RowB.of_own {w : World} {base n c g : Nat} {e : TypeId} {xs : List Value} (h : w.ownsRow base e 1 (.slice (some ⟨g, 0, none⟩) n c) n xs) : RowB e xs g w := by
  rcases h.2 with ⟨h1, _⟩ | ⟨g', cap, cur, hv, _, hg, _, _, _, ht⟩
  · cases h1
  · cases hv
    refine ⟨cur.toList.drop n, ?_⟩
    show w.heap[g]? = _
    rw [hg, ← ht, Nat.mul_one, List.take_append_drop]
def ramCells (vb vt vl : Value) (r : Nat → Int) : Array Value := #[vb, vt, vl, .int .i64 (r 0), .int .i64 (r 1), .int .i64 (r 2), .int .i64 (r 3), .int .i64 (r 4), .int .i64 (r 5)]
/-- Where a memory lies. -/
structure Pla where
  g : Nat
  gb : Nat
  gt : Nat
  Ab : Option Addr
  cb : Nat
  At : Option Addr
  ct : Nat
  vl : Value
def Pla.foot (p : Pla) : List Nat := p.g :: p.gb :: p.gt :: p.vl.ownBlock.toList
end Go.Proofs.YtoaonoflekcccaaDoor
