/- A slice of floating-point numbers that came in, read as a list. Nothing here speaks of a program of its own. -/
import Derived.Test.YtbpcggoplacplaaMem
import Derived.WalkKit
import Derived.ProofKit
import Derived.OpenShut
import Derived.Deep.Slices
import Derived.Laws.Cover2
namespace Go.Proofs.Ytbpcggoplacplaa
open Go.ChangeShapes Go.WideShapes Go.ChangeAt Go.RowKit Go.Deep

theorem trod_f64 {H : Type} {enc : TypeId × Value → H} {P : Program} {w : World} {base : Nat} {spare : Nat → Bool} {held : Bool} {t : TypeId} {fuel : Nat} {v : Value} {x : DataW H × List MemPlace}
    (ht : P.underlying t = some (.float .f64)) (h : DataW.trod enc P w base spare held fuel t [v] = some x) : ∃ b, v = .float .f64 b ∧ (Lit.float .f64 b).wf = true := by
  cases fuel with
  | zero => simp [DataW.trod] at h
  | succ n =>
    simp only [DataW.trod, ht] at h
    split at h
    all_goals first
      | (rename_i q _; cases q; done)
      | (rename_i q1 q2; cases q1; cases q2; split at h <;> first | (rename_i g; have g1 := g.1; subst g1; exact ⟨_, rfl, g.2⟩) | (cases h; done))
      | (cases h; done)
      | (rename_i q; cases q; done)

/-- A slice of floating-point numbers that came in: its list, and that the cells hold it. -/
theorem slice_floats {H : Type} {enc : TypeId × Value → H} {P : Program} {w : World} {spare : Nat → Bool} {held : Bool} {t e : TypeId} {A : Option Addr} {len cap : Nat} {x : DataW H × List MemPlace}
    (ht : P.underlying t = some (.slice e)) (he : P.underlying e = some (.float .f64)) (hc : P.cellsOf e = 1)
    (h : ∃ fuel, DataW.trod enc P w 0 spare held fuel t (Value.slice A len cap).cells.toList = some x) :
    ∃ l : List Nat, len = l.length ∧ l.length ≤ 9223372036854775807 ∧ (∀ z ∈ l, (Lit.float .f64 z).wf = true) ∧ Rd w w.heap.size A (l.map (Value.float .f64)) := by
  obtain ⟨fuel, hf⟩ := h
  rcases open_slice1 ht hc hf with ⟨hcs, _⟩ | ⟨a, n, c, m, k, V, D, Pl, hcs, _, hl, hm, hmm, _, hx⟩
  · simp [Value.cells] at hcs
    obtain ⟨rfl, rfl, rfl⟩ := hcs
    exact ⟨[], rfl, by simp, by simp, Rd.nil⟩
  · simp [Value.cells] at hcs
    obtain ⟨rfl, rfl, rfl⟩ := hcs
    have hlm : len ≤ m := by rw [hmm]; split <;> omega
    obtain ⟨b, off, sp⟩ := a
    have each : ∀ i, i < m → ∃ z, V i = .float .f64 z ∧ (Lit.float .f64 z).wf = true := fun i hi => trod_f64 he (hx i hi).2
    refine ⟨(List.range len).map (fun i => match V i with | .float _ z => z | _ => 0), by simp, by unfold maxLen at hm; simp; omega, ?_, ?_⟩
    · intro z hz
      obtain ⟨i, hi, rfl⟩ := List.mem_map.1 hz
      obtain ⟨z, e, hz⟩ := each i (by have := List.mem_range.1 hi; omega)
      rw [e]; exact hz
    · rcases Nat.eq_zero_or_pos len with h0 | h0
      · subst h0; exact .inl (by simp)
      · have h00 := (hx 0 (by omega)).1
        have hsp : sp = none := by simpa [Addr.add] using World.cell?_spot h00
        subst hsp
        have hat : ∀ i, i < m → w.cell? ⟨b, off + i, none⟩ = some (V i) := fun i hi => by rw [← add_plain]; exact (hx i hi).1
        refine .inr ⟨b, off, rfl, World.block_lt_of_cell? w ⟨b, off + 0, none⟩ (hat 0 (by omega)), fun i v hv => ?_⟩
        rw [List.map_map, List.getElem?_map, Option.map_eq_some_iff] at hv
        obtain ⟨j, hj, rfl⟩ := hv
        have hil : i < len := by
          rcases Nat.lt_or_ge i len with g | g
          · exact g
          · rw [List.getElem?_eq_none (by simpa using g)] at hj; cases hj
        rw [List.getElem?_range hil] at hj
        cases hj
        obtain ⟨z, e, _⟩ := each i (by omega)
        rw [hat i (by omega)]
        show some (V i) = some (Value.float .f64 (match V i with | .float _ z => z | _ => 0))
        rw [e]
end Go.Proofs.Ytbpcggoplacplaa
