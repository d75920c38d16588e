/- Cells of writes; bytes and tags at a place. -/
import Derived.Test.YteoemjhhjnkkiaaOg
import Derived.Test.YteoemjhhjnkkiaaMm
set_option maxRecDepth 100000
namespace Go.Proofs.Yteoemjhhjnkkiaa
open Go.RowKit

theorem wr_cell {w : World} {A : Option Addr} {l : List Wr} (h : Rd w w.heap.size A (cellsW l)) (hl : 0 < l.length) : ∃ b off, A = some ⟨b, off, none⟩ ∧ b < w.heap.size ∧ ∀ k (hk : k < l.length), w.cell? ⟨b, off + k * 4, none⟩ = some (.int .i64 l[k].id) ∧ w.cell? ⟨b, off + k * 4 + 1, none⟩ = some (.int .i64 l[k].addr) ∧
    w.cell? ⟨b, off + k * 4 + 2, none⟩ = some (.int .i64 l[k].size) ∧ w.cell? ⟨b, off + k * 4 + 3, none⟩ = some (.int .u64 l[k].data) := by
  have hz : ∀ x : Wr, ((wrCells x).toList).length = 4 := fun _ => rfl
  rcases h with h0 | ⟨b, off, rfl, hb, hc⟩
  · have h1 := cellsW_len l
    rw [h0] at h1
    simp at h1
    omega
  · refine ⟨b, off, rfl, hb, fun k hk => ?_⟩
    have at_ : ∀ j, j < 4 → w.cell? ⟨b, off + k * 4 + j, none⟩ = (wrCells l[k])[j]? := fun j hj => by
      have e := flat_at (fun x => (wrCells x).toList) 4 hz l k j hj
      rw [List.getElem?_eq_getElem hk] at e
      have e2 : (cellsW l)[k * 4 + j]? = (wrCells l[k]).toList[j]? := e
      have hj2 : j < (wrCells l[k]).toList.length := hj
      rw [List.getElem?_eq_getElem hj2] at e2
      have := hc (k * 4 + j) _ e2
      rw [← Nat.add_assoc] at this
      rw [this]
      simp
    exact ⟨at_ 0 (by omega), at_ 1 (by omega), at_ 2 (by omega), at_ 3 (by omega)⟩
theorem lastB_take (b0 : List Int) (l : List Wr) (k q : Nat) (h : k < l.length) : lastB b0 (l.take (k + 1)) q = stepB q (lastB b0 (l.take k) q) l[k] := by
  rw [List.take_succ_eq_append_getElem h, lastB_snoc]
theorem bytesM_at (b0 : List Int) (l : List Wr) (q : Nat) (h : q < b0.length) : (cellsB (bytesM b0 l))[q]? = some (.int .u8 (lastB b0 l q).1) := by
  unfold cellsB bytesM
  rw [List.getElem?_map, List.getElem?_map, List.getElem?_range h]
  rfl
theorem tagsM_at (b0 : List Int) (l : List Wr) (q : Nat) (h : q < b0.length) : (cellsI (tagsM b0 l))[q]? = some (.int .i64 (lastB b0 l q).2) := by
  unfold cellsI tagsM
  rw [List.getElem?_map, List.getElem?_map, List.getElem?_range h]
  rfl
end Go.Proofs.Yteoemjhhjnkkiaa
