/- Layer 14, plain: what is thought; how it lies in memory. -/
import Derived.Test.YtdcmpmmbmjaaiaaDoorRows
import Derived.Test.YtdcmpmmbmjaaiaaDoorMm
import Derived.Test.YtdcmpmmbmjaaiaaDoorHp
set_option maxRecDepth 100000
namespace Go.Proofs.YtdcmpmmbmjaaiaaDoor
open Go.RowKit

/-- An instruction that went on somewhere. -/
structure Wn where
  i : Ins
  pc : Int
  next : Int
/-- What is thought: where the last jumps of each number went, and the counters. -/
structure Gst where
  t : Nat → Int
  b : Nat → Bool
  c : Nat → Int
def updK {X : Type} (f : Nat → X) (n : Nat) (v : X) : Nat → X := fun k => if k = n then v else f k
theorem updK_same {X : Type} (f : Nat → X) (n : Nat) (v : X) : updK f n v n = v := if_pos rfl
theorem updK_other {X : Type} (f : Nat → X) (n : Nat) (v : X) {k : Nat} (h : k ≠ n) : updK f n v k = f k := if_neg h
def numG (pc : Int) : Nat := (pc / 4 % 16).toNat
theorem numG_lt (pc : Int) : numG pc < 16 := by unfold numG; omega
theorem numG_int (pc : Int) : (numG pc : Int) = pc / 4 % 16 := by unfold numG; omega
def asdG (i : Ins) (pc : Int) : Int := IntKind.u64.wrap (pc + IntKind.u64.wrap i.imm)
def onG (pc : Int) : Int := IntKind.u64.wrap (pc + 4)
/-- A counter, turned by one as far as it goes. -/
def cntK (up : Bool) (c : Int) : Int := if up then (if c < 3 then c + 1 else c) else (if 0 < c then c - 1 else c)
theorem cntK_in (up : Bool) {c : Int} (h : 0 ≤ c ∧ c ≤ 3) : 0 ≤ cntK up c ∧ cntK up c ≤ 3 := by
  unfold cntK; cases up <;> simp <;> split <;> omega
def wentG (s : Gst) (pc next : Int) : Gst := ⟨updK s.t (numG pc) next, updK s.b (numG pc) true, s.c⟩
def countG (s : Gst) (pc : Int) (up : Bool) : Gst := ⟨s.t, s.b, updK s.c (numG pc) (cntK up (s.c (numG pc)))⟩
/-- Behind what went. -/
def trG (s : Gst) (x : Wn) : Gst :=
  if x.i.op = 4 then wentG s x.pc x.next
  else if srt x.i.op = 3 ∧ x.i.imm ≠ 4 then countG s x.pc (decide (x.next = asdG x.i x.pc))
  else s
def newG : Gst := ⟨fun _ => 0, fun _ => false, fun _ => 1⟩
/-- Where an instruction is thought to go on. -/
def nxtG (s : Gst) (i : Ins) (pc : Int) : Int :=
  if i.op = 4 then (if s.b (numG pc) = true then s.t (numG pc) else onG pc)
  else if i.op = 3 ∨ (srt i.op = 3 ∧ 2 ≤ s.c (numG pc)) then asdG i pc else onG pc
structure GOk (s : Gst) : Prop where
  c : ∀ k, 0 ≤ s.c k ∧ s.c k ≤ 3
theorem newG_ok : GOk newG := ⟨fun _ => by show 0 ≤ (1 : Int) ∧ (1 : Int) ≤ 3; omega⟩
theorem GOk.went {s : Gst} (h : GOk s) (pc next : Int) : GOk (wentG s pc next) := ⟨h.c⟩
theorem GOk.count {s : Gst} (h : GOk s) (pc : Int) (up : Bool) : GOk (countG s pc up) := ⟨fun k => by
  show 0 ≤ updK _ _ _ k ∧ updK _ _ _ k ≤ 3
  unfold updK
  split
  · exact cntK_in up (h.c _)
  · exact h.c k⟩
theorem GOk.tr {s : Gst} (h : GOk s) (x : Wn) : GOk (trG s x) := by
  unfold trG
  split
  · exact h.went _ _
  · split
    · exact h.count _ _
    · exact h
/-- Behind all that went, one behind the other. -/
def allG (l : List Wn) : Gst := l.foldl trG newG
theorem allG_ok (l : List Wn) : GOk (allG l) := by
  unfold allG
  have : ∀ (l : List Wn) (s : Gst), GOk s → GOk (l.foldl trG s) := fun l => by
    induction l with
    | nil => exact fun s h => h
    | cons x l ih => exact fun s h => ih _ (h.tr x)
  exact this l _ newG_ok
theorem allG_snoc (l : List Wn) (x : Wn) : allG (l ++ [x]) = trG (allG l) x := by unfold allG; rw [List.foldl_append]; rfl

/-! ### How it lies -/
def gCells (s : Gst) : Array Value := #[
  .int .u64 (s.t 0), .bool (s.b 0), .int .u64 (s.t 1), .bool (s.b 1), .int .u64 (s.t 2), .bool (s.b 2), .int .u64 (s.t 3), .bool (s.b 3),
  .int .u64 (s.t 4), .bool (s.b 4), .int .u64 (s.t 5), .bool (s.b 5), .int .u64 (s.t 6), .bool (s.b 6), .int .u64 (s.t 7), .bool (s.b 7),
  .int .u64 (s.t 8), .bool (s.b 8), .int .u64 (s.t 9), .bool (s.b 9), .int .u64 (s.t 10), .bool (s.b 10), .int .u64 (s.t 11), .bool (s.b 11),
  .int .u64 (s.t 12), .bool (s.b 12), .int .u64 (s.t 13), .bool (s.b 13), .int .u64 (s.t 14), .bool (s.b 14), .int .u64 (s.t 15), .bool (s.b 15),
  .int .i64 (s.c 0), .int .i64 (s.c 1), .int .i64 (s.c 2), .int .i64 (s.c 3), .int .i64 (s.c 4), .int .i64 (s.c 5), .int .i64 (s.c 6), .int .i64 (s.c 7),
  .int .i64 (s.c 8), .int .i64 (s.c 9), .int .i64 (s.c 10), .int .i64 (s.c 11), .int .i64 (s.c 12), .int .i64 (s.c 13), .int .i64 (s.c 14), .int .i64 (s.c 15)]
theorem sixteen {p : Nat → Prop} (h : p 0 ∧ p 1 ∧ p 2 ∧ p 3 ∧ p 4 ∧ p 5 ∧ p 6 ∧ p 7 ∧ p 8 ∧ p 9 ∧ p 10 ∧ p 11 ∧ p 12 ∧ p 13 ∧ p 14 ∧ p 15) {k : Nat} (hk : k < 16) : p k := by
  obtain ⟨h0, h1, h2, h3, h4, h5, h6, h7, h8, h9, h10, h11, h12, h13, h14, h15⟩ := h
  match k, hk with
  | 0, _ => exact h0
  | 1, _ => exact h1
  | 2, _ => exact h2
  | 3, _ => exact h3
  | 4, _ => exact h4
  | 5, _ => exact h5
  | 6, _ => exact h6
  | 7, _ => exact h7
  | 8, _ => exact h8
  | 9, _ => exact h9
  | 10, _ => exact h10
  | 11, _ => exact h11
  | 12, _ => exact h12
  | 13, _ => exact h13
  | 14, _ => exact h14
  | 15, _ => exact h15
  | n + 16, h => omega
theorem gCells_t (s : Gst) {k : Nat} (hk : k < 16) : (gCells s)[2 * k]? = some (.int .u64 (s.t k)) := sixteen (p := fun k => (gCells s)[2 * k]? = some (.int .u64 (s.t k))) ⟨rfl, rfl, rfl, rfl, rfl, rfl, rfl, rfl, rfl, rfl, rfl, rfl, rfl, rfl, rfl, rfl⟩ hk
theorem gCells_b (s : Gst) {k : Nat} (hk : k < 16) : (gCells s)[2 * k + 1]? = some (.bool (s.b k)) := sixteen (p := fun k => (gCells s)[2 * k + 1]? = some (.bool (s.b k))) ⟨rfl, rfl, rfl, rfl, rfl, rfl, rfl, rfl, rfl, rfl, rfl, rfl, rfl, rfl, rfl, rfl⟩ hk
theorem gCells_c (s : Gst) {k : Nat} (hk : k < 16) : (gCells s)[32 + k]? = some (.int .i64 (s.c k)) := sixteen (p := fun k => (gCells s)[32 + k]? = some (.int .i64 (s.c k))) ⟨rfl, rfl, rfl, rfl, rfl, rfl, rfl, rfl, rfl, rfl, rfl, rfl, rfl, rfl, rfl, rfl⟩ hk
theorem gCells_setC (s : Gst) (v : Int) {k : Nat} (hk : k < 16) : (gCells s).setIfInBounds (32 + k) (.int .i64 v) = gCells ⟨s.t, s.b, updK s.c k v⟩ :=
  sixteen (p := fun k => (gCells s).setIfInBounds (32 + k) (.int .i64 v) = gCells ⟨s.t, s.b, updK s.c k v⟩) ⟨rfl, rfl, rfl, rfl, rfl, rfl, rfl, rfl, rfl, rfl, rfl, rfl, rfl, rfl, rfl, rfl⟩ hk
theorem gCells_setT (s : Gst) (v : Int) (d : Bool) {k : Nat} (hk : k < 16) : ((gCells s).toList.take (2 * k) ++ [Value.int .u64 v, Value.bool d] ++ (gCells s).toList.drop (2 * k + [Value.int .u64 v, Value.bool d].length)).toArray = gCells ⟨updK s.t k v, updK s.b k d, s.c⟩ :=
  sixteen (p := fun k => ((gCells s).toList.take (2 * k) ++ [Value.int .u64 v, Value.bool d] ++ (gCells s).toList.drop (2 * k + [Value.int .u64 v, Value.bool d].length)).toArray = gCells ⟨updK s.t k v, updK s.b k d, s.c⟩) ⟨rfl, rfl, rfl, rfl, rfl, rfl, rfl, rfl, rfl, rfl, rfl, rfl, rfl, rfl, rfl, rfl⟩ hk
/-- A guess lies at block g. -/
def GAt (s : Gst) (g : Nat) (w : World) : Prop := Blk (gCells s) 45 g w
theorem GAt.on {s : Gst} {g : Nat} {w w' : World} (h : GAt s g w) (k : Below w.heap.size w w') : GAt s g w' := Blk.on h k
theorem GAt.cellC {s : Gst} {g : Nat} {w : World} (h : GAt s g w) {k : Nat} (hk : k < 16) : w.cell? ⟨g, 32 + k, none⟩ = some (.int .i64 (s.c k)) := (Blk.cell h _).trans (gCells_c s hk)
theorem GAt.cellT {s : Gst} {g : Nat} {w : World} (h : GAt s g w) {k : Nat} (hk : k < 16) : w.cell? ⟨g, 2 * k, none⟩ = some (.int .u64 (s.t k)) := (Blk.cell h _).trans (gCells_t s hk)
theorem GAt.cellB {s : Gst} {g : Nat} {w : World} (h : GAt s g w) {k : Nat} (hk : k < 16) : w.cell? ⟨g, 2 * k + 1, none⟩ = some (.bool (s.b k)) := (Blk.cell h _).trans (gCells_b s hk)
end Go.Proofs.YtdcmpmmbmjaaiaaDoor
