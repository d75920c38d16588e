/- Memory in words: a slice that reads as a list of cells. Nothing here speaks of a program. -/
import Derived.WalkKit
import Derived.Laws.OwnMore
namespace Go.Proofs.YtbnacdhhacafkaaDoor
open Go.RowKit

/-- The slice at A holds the cells xs, below block B; the empty one may be anywhere. -/
def Rd (w : World) (B : Nat) (A : Option Addr) (xs : List Value) : Prop :=
  xs = [] ∨ ∃ b off, A = some ⟨b, off, none⟩ ∧ b < B ∧ ∀ i v, xs[i]? = some v → w.cell? ⟨b, off + i, none⟩ = some v

section
variable {w w' : World} {B B' : Nat} {A : Option Addr} {xs : List Value}
theorem Rd.at (h : Rd w B A xs) {i : Nat} (hi : i < xs.length) :
    ∃ b off, A = some ⟨b, off, none⟩ ∧ b < B ∧ w.cell? ⟨b, off + i, none⟩ = some xs[i] := by
  rcases h with rfl | ⟨b, off, rfl, hb, hc⟩
  · cases hi
  · exact ⟨b, off, rfl, hb, hc i _ (List.getElem?_eq_getElem hi)⟩
theorem Rd.nil : Rd w B A [] := .inl rfl
theorem Rd.keep (h : Rd w B A xs) (hk : ∀ b off, b < B → w'.cell? ⟨b, off, none⟩ = w.cell? ⟨b, off, none⟩) : Rd w' B A xs := by
  rcases h with rfl | ⟨b, off, rfl, hb, hc⟩
  · exact .inl rfl
  · exact .inr ⟨b, off, rfl, hb, fun i v hv => (hk b _ hb).trans (hc i v hv)⟩
theorem Rd.mono (h : Rd w B A xs) (hB : B ≤ B') : Rd w B' A xs := by
  rcases h with rfl | ⟨b, off, rfl, hb, hc⟩
  · exact .inl rfl
  · exact .inr ⟨b, off, rfl, by omega, hc⟩
theorem Rd.below (h : Rd w B A xs) (hb : Below B w w') : Rd w' B A xs := h.keep fun b off hlt => hb.cell (p := ⟨b, off, none⟩) hlt
theorem Rd.of_own {base : Nat} {e : TypeId} {n c : Nat} (h : w.ownsRow base e 1 (.slice A n c) n xs) : Rd w w.heap.size A xs := by
  rcases h with ⟨hl, ⟨_, h0⟩ | ⟨g, cap, cur, hv, _, hh, _, _, _, ht⟩⟩
  · exact .inl (List.eq_nil_of_length_eq_zero (by omega))
  · cases hv
    have hlt : g < w.heap.size := by
      rcases Nat.lt_or_ge g w.heap.size with h | h
      · exact h
      · rw [Array.getElem?_eq_none h] at hh; cases hh
    refine .inr ⟨g, 0, rfl, hlt, fun i v hv => ?_⟩
    rw [cell_of_row w g (0 + i) cur e (0, 0) hh, ← ht] at *
    rw [List.getElem?_take] at hv
    split at hv
    · simpa using hv
    · cases hv
/-- A row of the call's own is a slice that reads as its cells. -/
theorem own_form {base : Nat} {e : TypeId} {n : Nat} {v : Value} (h : w.ownsRow base e 1 v n xs) : ∃ A c, v = .slice A n c ∧ Rd w w.heap.size A xs := by
  have h' := h
  rcases h' with ⟨_, ⟨rfl, rfl⟩ | ⟨g, cap, _, rfl, _⟩⟩
  · exact ⟨none, 0, rfl, Rd.of_own h⟩
  · exact ⟨_, cap, rfl, Rd.of_own h⟩
end
end Go.Proofs.YtbnacdhhacafkaaDoor
