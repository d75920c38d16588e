/- The buffer: is a store of another one's block? -/
import Derived.Test.YtcddgcchpmjdiaaVa
import Derived.Test.YtcddgcchpmjdiaaVe
set_option maxRecDepth 100000
set_option linter.unusedVariables false
namespace Go.Proofs.Ytcddgcchpmjdiaa
open Go.RowKit

/-- Both stores lie in their boxes. -/
def SQ (y x : Wr) (B : Nat) (w X : World) : Prop := BW w X ∧ Blk (wrCells y) 34 w.heap.size X ∧ Blk (wrCells x) 34 B X
theorem SQ.on {y x : Wr} {B : Nat} {w X Y : World} (h : SQ y x B w X) (k : BW X Y) : SQ y x B w Y := ⟨h.1.on k, h.2.1.on k, h.2.2.on k⟩
theorem placeS_any (y x : Wr) (hy : 0 ≤ y.addr ∧ y.addr ≤ 1024) (hx : 0 ≤ x.addr ∧ x.addr ≤ 1024) {B : Nat} {w : World} (hB : Blk (wrCells x) 34 B w) :
    Calls Try.prog 46 #[.agg #[.int .i64 y.id, .int .i64 y.addr, .int .i64 y.size, .int .u64 y.data], .pointer (some ⟨B, 0, none⟩)] w fun e w' => e = .returned (.bool (sameBk x y)) ∧ BW w w' := by
  have HY := Lib.hid (block_any y hy.1 hy.2)
  have HX := Lib.hid (block_any x hx.1 hx.2)
  have HS : SQ y x B w (w.alloc (.cells (wrCells y) 34)).drew := ⟨Below.drew (BW.new (Below.refl _ _) _), (Blk.new _ _ _).drew, (hB.alloc _).drew⟩
  clear hB
  unfold sameBk
  go_enter Try.func46, Try.ntmps46
  go_wp2
  refine wp_region_held (S := SQ y x B w) (by kernel_rfl) ?_
  change wpAnyH _ _ _ _ _ _ _ _ (World.drew (World.alloc _ (.cells (wrCells y) _)))
  generalize World.drew _ = w0 at *
  refine hk_load (i := 0) (oi := ⟨some 4, .load _ _, _, _, _, _⟩) rfl (by kernel_rfl) (by kernel_rfl) (by kernel_rfl) (fun _ _ _ h => h) (by kernel_rfl) _ _ rfl rfl (fun _ h => h.2.1) Try.underlying34 rfl (by kernel_rfl) HS ?_
  simp only [Act.put, List.setIfInBounds_toArray, List.set_cons_zero, List.set_cons_succ]
  refine hk_load (i := 2) (oi := ⟨some 6, .load _ _, _, _, _, _⟩) rfl (by kernel_rfl) (by kernel_rfl) (by kernel_rfl) (fun _ _ _ h => h) (by kernel_rfl) _ _ rfl rfl (fun _ h => h.2.2) Try.underlying34 rfl (by kernel_rfl) HS ?_
  simp only [Act.put, List.setIfInBounds_toArray, List.set_cons_zero, List.set_cons_succ]
  refine hk_call (i := 1) (oi := ⟨some 5, .call _, _, _, _, _⟩) (by kernel_rfl) rfl (by kernel_rfl) (by first | rfl | kernel_rfl) (HY.out _) ?_
  rintro e w1 ⟨rfl, hb⟩
  have HS1 := HS.on hb
  refine ⟨_, rfl, HS1, ?_⟩
  clear hb
  simp only [Act.put, List.setIfInBounds_toArray, List.set_cons_zero, List.set_cons_succ]
  refine hk_call (i := 3) (oi := ⟨some 7, .call _, _, _, _, _⟩) (by kernel_rfl) rfl (by kernel_rfl) (by first | rfl | kernel_rfl) (HX.out _) ?_
  rintro e w2 ⟨rfl, hb⟩
  have HS2 := HS1.on hb
  refine ⟨_, rfl, HS2, ?_⟩
  clear hb
  simp only [Act.put, List.setIfInBounds_toArray, List.set_cons_zero, List.set_cons_succ]
  refine hk_val (i := 4) (oi := ⟨some 8, .binOp _ _ _ _ _, _, _, _, _⟩) (.bool (decide (bkN y = bkN x))) rfl (by kernel_rfl) (by kernel_rfl) (by kernel_rfl) (fun _ _ _ h => h) (by kernel_rfl) (fun _ _ => ex_eqI rfl rfl rfl rfl) HS2 ?_
  simp only [Act.put, List.setIfInBounds_toArray, List.set_cons_zero, List.set_cons_succ]
  refine hk_val (i := 5) (oi := ⟨some 3, .assign _, _, _, _, _⟩) (.bool (decide (bkN y = bkN x))) rfl (by kernel_rfl) (by kernel_rfl) (by kernel_rfl) (fun _ _ _ h => h) (by kernel_rfl) (fun _ _ => rfl) HS2 ?_
  simp only [Act.put, List.setIfInBounds_toArray, List.set_cons_zero, List.set_cons_succ]
  refine wpAnyH_done (by kernel_rfl) ?_ _
  go_wp2
  go_ret
  exact ⟨rfl, HS2.1⟩
end Go.Proofs.Ytcddgcchpmjdiaa
