/- The contracts of the document's Target and Sources. -/
import Derived.Test.YtbnacdhhacafkaaDoorRows
import Derived.Test.YtbnacdhhacafkaaDoorSz
import Derived.Test.YtbnacdhhacafkaaDoorInst
import Derived.Test.YtbnacdhhacafkaaDoorMem
import Derived.WalkKit
import Derived.WalkLawsBesides
import Derived.Deep.QuietTactic
import Derived.BigQuiet
import Derived.WalkSmall
import Derived.WalkSpells
import Derived.Lib.Hide
import Derived.Below
import Derived.Deep.Cut
import Derived.OwnWalk
import Derived.Laws.AppendOwn
namespace Go.Proofs.YtbnacdhhacafkaaDoor
open Go.RowKit

def tgt (i : Ins) : Int := if wrB i.op then regV i.rd else 0
theorem BW.past {w X w1 : World} (hB : Below w.heap.size w X) (h : BW X w1) : Below w.heap.size w w1 := hB.trans (Below.mono h hB.size)
/-- The registers that an instruction reads. -/
def srcs (i : Ins) : List Int := (if firB i.op && decide (1 ≤ i.rs1 ∧ i.rs1 ≤ 31) then [i.rs1] else []) ++ (if secB i.op && decide (1 ≤ i.rs2 ∧ i.rs2 ≤ 31) then [i.rs2] else [])
theorem reg_pos (r : Int) : (0 < regV r) = (1 ≤ r ∧ r ≤ 31) := by
  unfold regV
  split <;> (apply propext; constructor <;> intro h <;> omega)
def cellsI (l : List Int) : List Value := l.map (Value.int .i64)
/-- The call returns a list of registers, in new memory or none. -/
def RetI (w : World) (l : List Int) (e : Ending) (w' : World) : Prop := ∃ A cap, e = .returned (.slice A l.length cap) ∧ Rd w' w'.heap.size A (cellsI l) ∧ Below w.heap.size w w'
theorem RetI.of_own {w w' : World} {l : List Int} {base : Nat} {e : TypeId} {n : Nat} {v : Value} (h : w'.ownsRow base e 1 v n (cellsI l)) (hb : Below w.heap.size w w') : RetI w l (.returned v) w' := by
  obtain ⟨A, c, rfl, hr⟩ := own_form h
  have hn : n = l.length := by have := h.1; unfold cellsI at this; rw [List.length_map] at this; omega
  subst hn
  exact ⟨A, c, rfl, hr, hb⟩
/-- The same, where the memory is new. -/
def RetN (w : World) (l : List Int) (e : Ending) (w' : World) : Prop := ∃ A cap, e = .returned (.slice A l.length cap) ∧ Rd w' w'.heap.size A (cellsI l) ∧ Below w.heap.size w w' ∧ ∀ a, A = some a → w.heap.size ≤ a.block
theorem RetN.of_own {w w' : World} {l : List Int} {e : TypeId} {n : Nat} {v : Value} (h : w'.ownsRow w.heap.size e 1 v n (cellsI l)) (hb : Below w.heap.size w w') : RetN w l (.returned v) w' := by
  obtain ⟨A, c, rfl, hr⟩ := own_form h
  have hn : n = l.length := by have := h.1; unfold cellsI at this; rw [List.length_map] at this; omega
  subst hn
  exact ⟨A, c, rfl, hr, hb, fun a ha => (h.lt a.block (by subst ha; rfl)).1⟩
theorem RetN.toI {w w' : World} {l : List Int} {e : Ending} (h : RetN w l e w') : RetI w l e w' := by
  obtain ⟨A, c, he, hr, hb, _⟩ := h
  exact ⟨A, c, he, hr, hb⟩
theorem info_int : (Tryd.prog.info? 3).map (fun i => (i.zero, i.size, i.bytes)) = some (some (.int .i64 0), 1, 8) := by kernel_rfl
theorem cell_new (w : World) (v : Value) (t : TypeId) : ∀ j u, [v][j]? = some u → (w.alloc (.cells #[v] t)).cell? ((⟨w.heap.size, 0, none⟩ : Addr).add j) = some u := by
  intro j u h
  cases j with
  | zero => simp at h; subst h; simp [Addr.add]
  | succ j => simp at h

theorem grown_of {w w' : World} (h : Below w.heap.size w w') : w.grownBy w' none := ⟨h.os, h.tape, h.output, h.size, fun k hk _ => h.block k hk⟩
theorem past_grown {w w' : World} {o : Obj} (h : (w.alloc o).grownBy w' none) : Below w.heap.size w w' :=
  ((Below.refl _ _).alloc (Nat.le_refl _) _).grown h (by simp) (fun _ h => by cases h)
theorem own_on {w w' : World} {base : Nat} {e : TypeId} {n : Nat} {v : Value} {xs : List Value} (h : w.ownsRow base e 1 v n xs) (hb : Below w.heap.size w w') : w'.ownsRow base e 1 v n xs :=
  h.kept (grown_of hb) (by cases v.ownBlock <;> simp)
end Go.Proofs.YtbnacdhhacafkaaDoor
