/- A slice of structs that came in, whatever their cells; numbers that came in. Of no program. -/
import Derived.Test.YtoaonoflekcccaaDoorBa
import Derived.WalkKit
import Derived.ProofKit
import Derived.OpenShut
import Derived.Deep.Slices
import Derived.Deep.Fields
import Derived.ChangeSame
set_option maxRecDepth 100000
namespace Go.Proofs.YtoaonoflekcccaaDoor
open Go.ChangeShapes Go.WideShapes Go.ChangeAt Go.RowKit Go.Deep

section
variable {H : Type} {enc : TypeId × Value → H} {P : Program} {w : World} {spare : Nat → Bool} {held : Bool}
theorem add_plainG (b o n : Nat) : (Addr.mk b o none).add n = ⟨b, o + n, none⟩ := by unfold Addr.add; split <;> simp_all
theorem flat_at {X : Type} (cells : X → List Value) (z : Nat) (hz : ∀ x, (cells x).length = z) : ∀ (l : List X) (i j : Nat), j < z → (l.flatMap cells)[i * z + j]? = (l[i]?).bind fun x => (cells x)[j]?
  | [], i, j, _ => by simp
  | x :: l, 0, j, hj => by
    rw [List.flatMap_cons, List.getElem?_append_left (by rw [hz]; omega)]
    simp
  | x :: l, i + 1, j, hj => by
    rw [List.flatMap_cons, List.getElem?_append_right (by rw [hz, Nat.add_mul]; omega), hz]
    have e : (i + 1) * z + j - z = i * z + j := by rw [Nat.add_mul]; omega
    rw [e, flat_at cells z hz l i j hj]
    simp
theorem flat_len {X : Type} (cells : X → List Value) (z : Nat) (hz : ∀ x, (cells x).length = z) : ∀ l : List X, (l.flatMap cells).length = l.length * z
  | [] => by simp
  | x :: l => by rw [List.flatMap_cons, List.length_append, flat_len cells z hz l, hz, List.length_cons, Nat.add_mul]; omega
/-- A slice that came in: its elements as data. -/
theorem slice_any {X : Type} {t e : TypeId} {z : Nat} (cells : X → List Value) (Good : X → Prop) (hzl : ∀ x, (cells x).length = z) (hz0 : 0 < z) (ht : P.underlying t = some (.slice e)) (hC : P.cellsOf e = z)
    (E : ∀ (n : Nat) (cs : List Value) (x : DataW H × List MemPlace), DataW.trod enc P w 0 spare held n e cs = some x → ∃ k, cs = cells k ∧ Good k) {A : Option Addr} {len cap : Nat} {x : DataW H × List MemPlace}
    (h : ∃ fuel, DataW.trod enc P w 0 spare held fuel t (Value.slice A len cap).cells.toList = some x) :
    ∃ l : List X, len = l.length ∧ l.length ≤ cap ∧ cap ≤ 9223372036854775807 ∧ (A = none → cap = 0 ∧ l = []) ∧ (∀ k ∈ l, Good k) ∧ Rd w w.heap.size A (l.flatMap cells) := by
  obtain ⟨fuel, hf⟩ := h
  rcases open_slice ht hf with ⟨hcs, _⟩ | ⟨a, n, c, m, q, D, Pl, hcs, _, hl, hm, hmm, _, hx⟩
  · simp [Value.cells] at hcs
    obtain ⟨rfl, rfl, rfl⟩ := hcs
    exact ⟨[], rfl, by simp, by simp, fun _ => ⟨rfl, rfl⟩, (fun p hp => by cases hp), Or.inl rfl⟩
  · simp [Value.cells] at hcs
    obtain ⟨rfl, rfl, rfl⟩ := hcs
    have hlm : len ≤ m := by rw [hmm]; split <;> omega
    obtain ⟨b, off, sp⟩ := a
    rw [hC] at hx
    have each : ∀ i, i < m → ∃ k : X, Good k ∧ ∀ j, j < z → w.cell? ((Addr.mk b off sp).add (i * z) |>.add j) = (cells k)[j]? := by
      intro i hi
      obtain ⟨cs', h1, h2⟩ := hx i hi
      obtain ⟨k, rfl, hk⟩ := E _ _ _ h2
      exact ⟨k, hk, fun j hj => by have := (World.cells?_some h1).2.2 j hj; simpa using this⟩
    have build : ∀ i, i ≤ m → ∃ l : List X, l.length = i ∧ (∀ k ∈ l, Good k) ∧ ∀ i' k, l[i']? = some k → ∀ j, j < z → w.cell? ((Addr.mk b off sp).add (i' * z) |>.add j) = (cells k)[j]? := by
      intro i
      induction i with
      | zero => exact fun _ => ⟨[], rfl, (fun k hk => by cases hk), fun i' k hk => by cases hk⟩
      | succ i ih =>
        intro hi
        obtain ⟨l, hll, hg, hc⟩ := ih (by omega)
        obtain ⟨k, hk, hck⟩ := each i (by omega)
        refine ⟨l ++ [k], by simp [hll], fun k' hk' => ?_, fun i' k' hk' => ?_⟩
        · rcases List.mem_append.1 hk' with h1 | h1
          · exact hg _ h1
          · have : k' = k := by simpa using h1
            rw [this]; exact hk
        · rcases Nat.lt_or_ge i' l.length with h1 | h1
          · rw [List.getElem?_append_left h1] at hk'
            exact hc i' k' hk'
          · rw [List.getElem?_append_right h1] at hk'
            have h2 : i' - l.length = 0 := by
              have := (List.getElem?_eq_some_iff.1 hk').1
              simp at this
              omega
            rw [h2] at hk'
            have h3 : k' = k := by simpa using hk'.symm
            have h4 : i' = i := by omega
            rw [h3, h4]
            exact hck
    obtain ⟨l, hll, hg, hc⟩ := build len hlm
    refine ⟨l, hll.symm, by omega, by unfold maxLen at hm; omega, (fun h => by cases h), hg, ?_⟩
    rcases Nat.eq_zero_or_pos len with h0 | h0
    · have : l = [] := List.eq_nil_of_length_eq_zero (by omega)
      rw [this]
      exact .inl rfl
    · have hz1 := hzl (l[0]'(by omega))
      have h00 : w.cell? ((Addr.mk b off sp).add (0 * z) |>.add 0) = (cells (l[0]'(by omega)))[0]? := hc 0 _ (List.getElem?_eq_getElem (by omega)) 0 hz0
      rw [List.getElem?_eq_getElem (show 0 < (cells (l[0]'(by omega))).length by omega)] at h00
      have hsp : sp = none := by simpa [Addr.add] using World.cell?_spot h00
      subst hsp
      rw [add_plainG, add_plainG] at h00
      refine .inr ⟨b, off, rfl, World.block_lt_of_cell? w _ h00, fun i v hv => ?_⟩
      have hi := (List.getElem?_eq_some_iff.1 hv).1
      rw [flat_len cells z hzl, hll] at hi
      have hdm := Nat.div_add_mod i z
      have hml := Nat.mod_lt i hz0
      have hdl : i / z < len := by
        rw [Nat.div_lt_iff_lt_mul hz0]
        exact hi
      have e : i = i / z * z + i % z := by rw [Nat.mul_comm]; omega
      rw [e] at hv ⊢
      rw [flat_at cells z hzl l (i / z) (i % z) hml, List.getElem?_eq_getElem (by omega)] at hv
      have h5 := hc (i / z) _ (List.getElem?_eq_getElem (by omega)) (i % z) hml
      rw [add_plainG, add_plainG, Nat.add_assoc] at h5
      rw [h5]
      exact hv
/-- A slice of integers that came in, with what is known of nil. -/
theorem slice_intn {t e : TypeId} {k : IntKind} {A : Option Addr} {len cap : Nat} {x : DataW H × List MemPlace} (ht : P.underlying t = some (.slice e)) (he : P.underlying e = some (.int k)) (hc : P.cellsOf e = 1)
    (h : ∃ fuel, DataW.trod enc P w 0 spare held fuel t (Value.slice A len cap).cells.toList = some x) :
    ∃ l : List Int, len = l.length ∧ l.length ≤ cap ∧ cap ≤ 9223372036854775807 ∧ (A = none → cap = 0 ∧ l = []) ∧ (∀ z ∈ l, (Lit.int k z).wf = true) ∧ Rd w w.heap.size A (l.map (Value.int k)) := by
  obtain ⟨l, h1, h2, h3, h4, h5, h6⟩ := slice_any (fun a => [Value.int k a]) (fun z => (Lit.int k z).wf = true) (fun _ => rfl) (by decide) ht hc (fun n cs y hy => by
    obtain ⟨a, e0, _, w0⟩ := DataW.trod_int he hy
    exact ⟨a, e0, w0⟩) h
  refine ⟨l, h1, h2, h3, h4, h5, ?_⟩
  have e : l.flatMap (fun a => [Value.int k a]) = l.map (Value.int k) := by
    clear h1 h2 h3 h4 h5 h6
    induction l <;> simp_all
  rw [← e]
  exact h6
end
end Go.Proofs.YtoaonoflekcccaaDoor
