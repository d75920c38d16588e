/- What comes in, opened: an array of 32 numbers by value, a deed by value, slices of deeds. -/
import Derived.Test.YtoahejjeihmiiaaNl
import Derived.Test.YtoahejjeihmiiaaTi
import Derived.WalkKit
import Derived.ProofKit
import Derived.OpenShut
import Derived.Laws.Cover2
set_option maxRecDepth 100000
set_option linter.unusedVariables false
namespace Go.Proofs.Ytoahejjeihmiiaa
open Go.ChangeShapes Go.WideShapes Go.ChangeAt Go.RowKit Go.Deep

section
variable {H : Type} {enc : TypeId × Value → H} {w : World} {spare : Nat → Bool} {held : Bool}
theorem u64s_row {base fuel : Nat} {cs : List Value} {x : DataW H × List MemPlace} (h : DataW.trod enc Try.prog w base spare held fuel 23 cs = some x) : ∃ f : Nat → Int, cs = (xCells f).toList := by
  obtain ⟨ys, m, _, _, hl, hy, hel⟩ := DataW.trod_array Try.underlying23 h
  rw [show Try.prog.cellsOf 23 = 32 by kernel_rfl] at hl
  rw [show Try.prog.cellsOf 22 = 1 by kernel_rfl] at hel
  have h1 : ∀ i, i < 32 → ∃ a : Int, cs[i]? = some (.int .u64 a) := fun i hi => by
    have h1 := hel i (by omega)
    rw [List.getElem?_eq_getElem (show i < ys.length by omega)] at h1
    obtain ⟨a, e, _, wf⟩ := DataW.trod_int Try.underlying22 h1
    refine ⟨a, ?_⟩
    have e2 : ((cs.drop (i * 1)).take 1)[0]? = some (.int .u64 a) := by rw [e]; rfl
    rw [List.getElem?_take, if_pos (by decide), List.getElem?_drop, Nat.mul_one, Nat.add_zero] at e2
    exact e2
  obtain ⟨f, hfm⟩ : ∃ f : Nat → Int, ∀ i, i < 32 → cs[i]? = some (.int .u64 (f i)) := ⟨fun i => if hi : i < 32 then (h1 i hi).choose else 0, fun i hi => by dsimp only; rw [dif_pos hi]; exact (h1 i hi).choose_spec⟩
  refine ⟨f, List.ext_getElem? fun i => ?_⟩
  by_cases hi : i < 32
  · rw [hfm i hi, Array.getElem?_toList, xCells_at f hi]
  · rw [List.getElem?_eq_none (by omega), List.getElem?_eq_none (by rw [Array.length_toList, xCells_size]; omega)]
/-- An array of 32 numbers that came in by value. -/
theorem open_x32 {r : Reach} {b0 base : Nat} {v : Value} {d : DataW H} {p : List MemPlace} (hv : Value.okWide Try.prog w r b0 23 v) (h : DataW.Trod enc Try.prog w base spare held 23 v d p) : ∃ f : Nat → Int, v = .agg (xCells f) := by
  obtain ⟨cs, rfl⟩ : ∃ cs, v = .agg cs := by
    simp only [Value.okWide, Try.underlying23] at hv
    obtain ⟨cs, h1, _⟩ := hv
    exact ⟨cs, h1⟩
  obtain ⟨fuel, hf⟩ := h
  obtain ⟨f, hk⟩ := u64s_row hf
  exact ⟨f, by rw [Array.toList_inj.1 (show cs.toList = (xCells f).toList from hk)]⟩
theorem nac_cells {base fuel : Nat} {cs : List Value} {x : DataW H × List MemPlace} (h : DataW.trod enc Try.prog w base spare held fuel 31 cs = some x) : ∃ k : Nac, cs = (nacCells k).toList ∧ Wnac k := by
  obtain ⟨xs, n, _, _, hl, hx, hf⟩ := DataW.trod_struct Try.underlying31 h
  rw [show Try.prog.cellsOf 31 = 3 by kernel_rfl] at hl
  match cs, hl with
  | [v0, v1, v2], _ =>
    have hx3 : xs.length = 3 := hx
    have g0 : DataW.trod enc Try.prog w base spare held n 3 (([v0, v1, v2].drop 0).take (Try.prog.cellsOf 3)) = xs[0]? := hf 0 _ rfl
    have g1 : DataW.trod enc Try.prog w base spare held n 3 (([v0, v1, v2].drop 1).take (Try.prog.cellsOf 3)) = xs[1]? := hf 1 _ rfl
    have g2 : DataW.trod enc Try.prog w base spare held n 22 (([v0, v1, v2].drop 2).take (Try.prog.cellsOf 22)) = xs[2]? := hf 2 _ rfl
    rw [show Try.prog.cellsOf 3 = 1 by kernel_rfl] at g0 g1
    rw [show Try.prog.cellsOf 22 = 1 by kernel_rfl] at g2
    match xs, hx3 with
    | [y0, y1, y2], _ =>
      obtain ⟨a0, e0, _, w0⟩ := DataW.trod_int Try.underlying3 (x := y0) g0
      obtain ⟨a1, e1, _, w1⟩ := DataW.trod_int Try.underlying3 (x := y1) g1
      obtain ⟨a2, e2, _, w2⟩ := DataW.trod_int Try.underlying22 (x := y2) g2
      simp at e0 e1 e2
      subst e0 e1 e2
      exact ⟨⟨a0, a1, a2⟩, rfl, w0, w1, w2⟩
theorem open_nac {r : Reach} {b0 base : Nat} {v : Value} {d : DataW H} {p : List MemPlace} (hv : Value.okWide Try.prog w r b0 31 v) (h : DataW.Trod enc Try.prog w base spare held 31 v d p) : ∃ k : Nac, v = .agg (nacCells k) ∧ Wnac k := by
  obtain ⟨cs, rfl, hsz⟩ := okWide_struct Try.underlying31 hv
  obtain ⟨fuel, hf⟩ := h
  obtain ⟨k, hk, ho⟩ := nac_cells hf
  exact ⟨k, by rw [Array.toList_inj.1 (show cs.toList = (nacCells k).toList from hk)], ho⟩
theorem slice_nacs {A : Option Addr} {len cap : Nat} {x : DataW H × List MemPlace} (h : ∃ fuel, DataW.trod enc Try.prog w 0 spare held fuel 24 (Value.slice A len cap).cells.toList = some x) :
    ∃ l : List Nac, len = l.length ∧ l.length ≤ cap ∧ cap ≤ 9223372036854775807 ∧ (A = none → cap = 0 ∧ l = []) ∧ Wnacs l ∧ Rd w w.heap.size A (cellsNac l) :=
  slice_any (z := 3) (fun x => (nacCells x).toList) Wnac (fun _ => rfl) (by decide) Try.underlying24 (by kernel_rfl) (fun _ _ _ h => nac_cells h) h
end
end Go.Proofs.Ytoahejjeihmiiaa
