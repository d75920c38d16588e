/- seek: the last store of which something is so, and the place of its entry. -/
import Derived.Test.YtoaonoflekcccaaDoorVs
set_option maxRecDepth 100000
set_option linter.unusedVariables false
namespace Go.Proofs.YtoaonoflekcccaaDoor
open Go.RowKit Go.Shelf

attribute [local go_sem] Oper.semAt_some

def w4 (x : Wr) : Value := .agg #[.int .i64 x.id, .int .i64 x.addr, .int .i64 x.size, .int .u64 x.data]
def wr0 : Wr := ⟨0, 0, 0, 0⟩
def z4 : Array Value := #[.int .i64 0, .int .i64 0, .int .i64 0, .int .u64 0]
/-- What seek tells. -/
def SeekR (f : Wr → Bool) (L : Nat) (m : Nat → Nat) (st : Nat → Nat → Wr) (k : Int) (x : Wr) (ok : Bool) : Prop :=
  (ok = false ∧ k = 0 ∧ x = wr0 ∧ ∀ i j, i < L → j < m i → f (st i j) = false) ∨
  (ok = true ∧ ∃ i j : Nat, i < L ∧ j < m i ∧ k = (i : Int) ∧ x = st i j ∧ f x = true ∧ (∀ j', j < j' → j' < m i → f (st i j') = false) ∧ ∀ i' j', i < i' → i' < L → j' < m i' → f (st i' j') = false)
theorem Blk.own {cs : Array Value} {t : TypeId} {g : Nat} {X Y : World} {row : Option Nat} {B : Nat} (h : Blk cs t g X) (hg : X.grownBy Y row) (hr : ∀ r, row = some r → B ≤ r ∧ ∃ o : Obj, X.heap[r]? = some o ∧ o.isCells = false) : Blk cs t g Y := by
  refine (hg.block g h.lt (fun e => ?_)).trans h
  obtain ⟨_, o, ho, hc⟩ := hr g e.symm
  have h' : X.heap[g]? = some (.cells cs t (0, 0)) := h
  rw [h'] at ho
  cases ho
  cases hc
theorem Blk.oth {cs : Array Value} {t : TypeId} {g : Nat} {w : World} (h : Blk cs t g w) (b o : Nat) (hne : g ≠ b) (v : Value) : Blk cs t g (w.setCell ⟨b, o, none⟩ v) := h.other hne v
theorem Blk.put {cs : Array Value} {t : TypeId} {g D : Nat} {X : World} {o o' : Obj} (h : Blk cs t g X) (hD : X.heap[D]? = some o) (ho : o.isCells = false) : Blk cs t g (X.putObj D o') :=
  h.own (B := 0) (grownBy_putObj' X D o') (fun r e => by cases e; exact ⟨Nat.zero_le _, o, hD, ho⟩)
theorem results_tct {P : Program} {fn : Func} {p q r : Tmp} {ty : TypeId} {d : TypeDesc} {cs : Array Value} {t : TypeId} {g : Nat} {w : World} {tmps : Array Value} {vp vr : Value} (h : fn.results = #[.tmp p, .cell q ty, .tmp r]) (hq : tmps.getD q undef = .pointer (some ⟨g, 0, none⟩)) (hp : tmps.getD p undef = vp) (hr : tmps.getD r undef = vr) (hb : Blk cs t g w)
    (hu : P.underlying ty = some d) (hd : (match d with | .struct _ | .array _ _ => true | _ => false) = true) (hi : (P.info? ty).map (·.size) = some cs.size) :
    (results fn tmps).run P w = .ok (.tuple #[vp, .agg cs, vr]) w := by
  have hq' : tmps[q]?.getD undef = .pointer (some ⟨g, 0, none⟩) := by simpa using hq
  have hp' : tmps[p]?.getD undef = vp := by simpa using hp
  have hr' : tmps[r]?.getD undef = vr := by simpa using hr
  simp [results, h, hq', hp', hr', asAddr, hb.var hu hd hi]
theorem keepsFrom_low {B n : Nat} {W W' : World} (h : Below n W W') (hn : W.heap.size ≤ n) : KeepsFrom B W W' :=
  ⟨h.size, fun k o _ hk _ => (h.block k (by have := (Array.getElem?_eq_some_iff.1 hk).1; omega)).trans hk⟩

end Go.Proofs.YtoaonoflekcccaaDoor
