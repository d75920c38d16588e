/- Lists that are copied (slices.Clone), made of one number (slices.Repeat). -/
import Derived.Test.YtoahejjeihmiiaaMm
import Derived.Test.YtoahejjeihmiiaaHk
import Derived.WalkLawsBesides
import Derived.WalkSpells
import Derived.WalkSmall
import Derived.Lib.Hide
import Derived.OwnWalk
import Derived.Laws.CopyOwn
import Derived.Laws.AppendOwn
import Derived.Laws.AppendOwnNone
import Derived.Deep.LoopGhost
import Derived.Deep.AppendLies
set_option maxRecDepth 100000
set_option linter.unusedVariables false
namespace Go.Proofs.Ytoahejjeihmiiaa
open Go.RowKit

theorem inf_parts {P : Program} {e : TypeId} {z : Value} {n b : Nat} (h : (P.info? e).map (fun i => (i.zero, i.size, i.bytes)) = some (some z, n, b)) : ∃ i, P.info? e = some i ∧ i.zero = some z ∧ i.size = n ∧ i.bytes = b := by
  cases hi : P.info? e with
  | none => rw [hi] at h; cases h
  | some i =>
    rw [hi] at h
    simp only [Option.map_some, Option.some.injEq, Prod.mk.injEq] at h
    exact ⟨i, rfl, h.1, h.2.1, h.2.2⟩
/-- An append onto a row of the call's own from a slice that reads as some cells. -/
theorem append_rd {P : Program} {w : World} {ops : Array Oper} {rest : List Oper} {o : Oper} {a : Act} {Q : Exit → Act → World → Prop} (hgd : o.guard = none) (s x : Operand) (t e : TypeId)
    (ho : o.op = .call { callee := .builtin .append, args := #[s, x], argTypes := #[t, t] }) (z : Value) (size bytes : Nat) (hi : (P.info? e).map (fun i => (i.zero, i.size, i.bytes)) = some (some z, size, bytes)) (hu : P.underlying t = some (.slice e)) (hzs : z.cells.size = size) (hsz : 0 < size)
    (base : Nat) (v : Value) (n : Nat) (xs : List Value) (hs : a.eval s = v) (hown : w.ownsRow base e size v n xs) (ad : Addr) (m cap : Nat) (news : List Value) (hx : a.eval x = .slice (some ad) m cap) (hl : news.length = m * size)
    (hr : Rd w w.heap.size (some ad) news) (h1 : ∀ u ∈ news, u.oneCell' = true) (h63 : n + m ≤ maxLen) (hbytes : (n + m) * bytes ≤ 140737488355328) (hbase : base ≤ w.heap.size)
    (h : ∀ v' w', w'.ownsRow base e size v' (n + m) (xs ++ news) → w.grownBy w' v.ownBlock → wpList P ops Q rest (a.put o.dst v') w') : wpList P ops Q (o :: rest) a w := by
  obtain ⟨i0, hi, hz0, hz1, hz2⟩ := inf_parts hi
  refine wpList_append_own w hgd s x t ho base e i0 z size bytes hu hi hz0 hz1 hz2 hzs hsz v n xs hs hown ad m cap news hx hl ?_ h1 h63 hbytes hbase (fun v' w' h1 h2 _ => h v' w' h1 h2)
  intro j u hj
  rcases hr with h0 | ⟨b, off, e, _, hc⟩
  · rw [h0] at hj; cases hj
  · cases e
    rw [Go.WideShapes.add_plain]
    exact hc j u hj
/-- A row of the call's own is what is told. -/
def RetOwn (w : World) (e : TypeId) (z n : Nat) (xs : List Value) (en : Ending) (w' : World) : Prop := ∃ v, en = .returned v ∧ w'.ownsRow w.heap.size e z v n xs ∧ BW w w'
theorem cells_oneI (l : List Int) : ∀ u ∈ cellsI l, u.oneCell' = true := by
  intro u hu
  unfold cellsI at hu
  obtain ⟨x, _, rfl⟩ := List.mem_map.1 hu
  rfl
theorem cells_oneB (l : List Int) : ∀ u ∈ cellsB l, u.oneCell' = true := by
  intro u hu
  unfold cellsB at hu
  obtain ⟨x, _, rfl⟩ := List.mem_map.1 hu
  rfl
theorem cells_oneW (l : List Wr) : ∀ u ∈ cellsW l, u.oneCell' = true := by
  intro u hu
  unfold cellsW at hu
  obtain ⟨x, _, hp⟩ := List.mem_flatMap.1 hu
  simp [wrCells] at hp
  rcases hp with rfl | rfl | rfl | rfl <;> rfl
theorem own_made0 (w : World) (e : TypeId) (z : Nat) : (w.alloc (.cells #[] e)).ownsRow w.heap.size e z (.slice (some ⟨w.heap.size, 0, none⟩) 0 0) 0 [] :=
  World.ownsRow_made w #[] 0 (Nat.le_refl _) (by unfold maxLen; omega) (by simp)

end Go.Proofs.Ytoahejjeihmiiaa
