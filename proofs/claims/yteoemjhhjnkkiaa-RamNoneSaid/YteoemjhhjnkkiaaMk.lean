/- RamNone: no memory has nothing. -/
import Derived.Test.YteoemjhhjnkkiaaMj
import Derived.Test.YteoemjhhjnkkiaaOa
set_option maxRecDepth 100000
set_option linter.unusedVariables false
namespace Go.Proofs.Yteoemjhhjnkkiaa
open Go.RowKit

theorem held_nil (t a z : Int) (w : World) : Calls Try.prog 20 #[.pointer none, .int .i64 t, .int .i64 a, .int .i64 z] w fun e w' => e = .returned (.bool false) ∧ BW w w' := by
  have HK := Lib.hid (has_nil a z)
  have HS : BW w (w.alloc (.cells #[.int .i64 a, .int .i64 z] 57)).drew ∧ Blk #[.int .i64 a, .int .i64 z] 57 w.heap.size (w.alloc (.cells #[.int .i64 a, .int .i64 z] 57)).drew := ⟨Below.drew (BW.new (Below.refl _ _) _), (Blk.new _ _ _).drew⟩
  go_enter Try.func20, Try.ntmps20
  go_wp2
  refine wp_region_held (S := fun x => BW w x ∧ Blk #[.int .i64 a, .int .i64 z] 57 w.heap.size x) (by kernel_rfl) ?_
  change wpAnyH _ _ _ _ _ _ _ _ (World.drew _)
  generalize World.drew _ = w0 at *
  refine hk_val (i := 0) (oi := ⟨some 13, .move _, _, _, _, _⟩) (.pointer none) rfl (by kernel_rfl) (by kernel_rfl) (by kernel_rfl) (fun _ _ _ h => h) (by kernel_rfl) (fun _ _ => rfl) HS ?_
  simp only [Act.put, List.setIfInBounds_toArray, List.set_cons_zero, List.set_cons_succ]
  refine hk_load (i := 1) (oi := ⟨some 14, .load _ _, _, _, _, _⟩) rfl (by kernel_rfl) (by kernel_rfl) (by kernel_rfl) (fun _ _ _ h => h) (by kernel_rfl) _ _ rfl rfl (fun _ h => h.2) Try.underlying57 rfl (by kernel_rfl) HS ?_
  simp only [Act.put, List.setIfInBounds_toArray, List.set_cons_zero, List.set_cons_succ]
  refine hk_call (i := 2) (oi := ⟨some 15, .call _, _, _, _, _⟩) (by kernel_rfl) rfl (by kernel_rfl) (by first | rfl | kernel_rfl) (HK.out _) ?_
  rintro e w1 ⟨rfl, hb⟩
  have HS1 : BW w w1 ∧ Blk #[.int .i64 a, .int .i64 z] 57 w.heap.size w1 := ⟨HS.1.on hb, HS.2.on hb⟩
  refine ⟨_, rfl, HS1, ?_⟩
  clear HS hb
  simp only [Act.put, List.setIfInBounds_toArray, List.set_cons_zero, List.set_cons_succ]
  refine hk_val (i := 3) (oi := ⟨some 16, .move _, _, _, _, _⟩) (.bool false) rfl (by kernel_rfl) (by kernel_rfl) (by kernel_rfl) (fun _ _ _ h => h) (by kernel_rfl) (fun _ _ => rfl) HS1 ?_
  simp only [Act.put, List.setIfInBounds_toArray, List.set_cons_zero, List.set_cons_succ]
  refine hk_skip (i := 4) (oi := ⟨some 17, .move _, _, _, _, _⟩) rfl (by kernel_rfl) (by kernel_rfl) (by kernel_rfl) (fun _ _ _ h => h) (by kernel_rfl) HS1 ?_
  simp only [Act.put, List.setIfInBounds_toArray, List.set_cons_zero, List.set_cons_succ]
  refine hk_skip (i := 5) (oi := ⟨some 18, .call _, _, _, _, _⟩) rfl (by kernel_rfl) (by kernel_rfl) (by kernel_rfl) (fun _ _ _ h => h) (by kernel_rfl) HS1 ?_
  simp only [Act.put, List.setIfInBounds_toArray, List.set_cons_zero, List.set_cons_succ]
  refine hk_val (i := 6) (oi := ⟨some 19, .pick _ _ _, _, _, _, _⟩) (.bool false) rfl (by kernel_rfl) (by kernel_rfl) (by kernel_rfl) (fun _ _ _ h => h) (by kernel_rfl) (fun _ _ => rfl) HS1 ?_
  simp only [Act.put, List.setIfInBounds_toArray, List.set_cons_zero, List.set_cons_succ]
  refine hk_val (i := 7) (oi := ⟨some 20, .move _, _, _, _, _⟩) (.bool false) rfl (by kernel_rfl) (by kernel_rfl) (by kernel_rfl) (fun _ _ _ h => h) (by kernel_rfl) (fun _ _ => rfl) HS1 ?_
  simp only [Act.put, List.setIfInBounds_toArray, List.set_cons_zero, List.set_cons_succ]
  refine hk_skip (i := 8) (oi := ⟨some 21, .move _, _, _, _, _⟩) rfl (by kernel_rfl) (by kernel_rfl) (by kernel_rfl) (fun _ _ _ h => h) (by kernel_rfl) HS1 ?_
  simp only [Act.put, List.setIfInBounds_toArray, List.set_cons_zero, List.set_cons_succ]
  refine hk_skip (i := 9) (oi := ⟨some 22, .move _, _, _, _, _⟩) rfl (by kernel_rfl) (by kernel_rfl) (by kernel_rfl) (fun _ _ _ h => h) (by kernel_rfl) HS1 ?_
  simp only [Act.put, List.setIfInBounds_toArray, List.set_cons_zero, List.set_cons_succ]
  refine hk_skip (i := 10) (oi := ⟨some 23, .nilCheck _, _, _, _, _⟩) rfl (by kernel_rfl) (by kernel_rfl) (by kernel_rfl) (fun _ _ _ h => h) (by kernel_rfl) HS1 ?_
  simp only [Act.put, List.setIfInBounds_toArray, List.set_cons_zero, List.set_cons_succ]
  refine hk_skip (i := 11) (oi := ⟨some 24, .fieldAddr _ _ _, _, _, _, _⟩) rfl (by kernel_rfl) (by kernel_rfl) (by kernel_rfl) (fun _ _ _ h => h) (by kernel_rfl) HS1 ?_
  simp only [Act.put, List.setIfInBounds_toArray, List.set_cons_zero, List.set_cons_succ]
  refine hk_skip (i := 12) (oi := ⟨some 25, .indexAddr _ _ _, _, _, _, _⟩) rfl (by kernel_rfl) (by kernel_rfl) (by kernel_rfl) (fun _ _ _ h => h) (by kernel_rfl) HS1 ?_
  simp only [Act.put, List.setIfInBounds_toArray, List.set_cons_zero, List.set_cons_succ]
  refine hk_skip (i := 13) (oi := ⟨some 26, .load _ _, _, _, _, _⟩) rfl (by kernel_rfl) (by kernel_rfl) (by kernel_rfl) (fun _ _ _ h => h) (by kernel_rfl) HS1 ?_
  simp only [Act.put, List.setIfInBounds_toArray, List.set_cons_zero, List.set_cons_succ]
  refine hk_skip (i := 14) (oi := ⟨some 27, .load _ _, _, _, _, _⟩) rfl (by kernel_rfl) (by kernel_rfl) (by kernel_rfl) (fun _ _ _ h => h) (by kernel_rfl) HS1 ?_
  simp only [Act.put, List.setIfInBounds_toArray, List.set_cons_zero, List.set_cons_succ]
  refine hk_skip (i := 15) (oi := ⟨some 28, .binOp _ _ _ _ _, _, _, _, _⟩) rfl (by kernel_rfl) (by kernel_rfl) (by kernel_rfl) (fun _ _ _ h => h) (by kernel_rfl) HS1 ?_
  simp only [Act.put, List.setIfInBounds_toArray, List.set_cons_zero, List.set_cons_succ]
  refine hk_val (i := 16) (oi := ⟨some 29, .pick _ _ _, _, _, _, _⟩) (.bool false) rfl (by kernel_rfl) (by kernel_rfl) (by kernel_rfl) (fun _ _ _ h => h) (by kernel_rfl) (fun _ _ => rfl) HS1 ?_
  simp only [Act.put, List.setIfInBounds_toArray, List.set_cons_zero, List.set_cons_succ]
  refine hk_val (i := 17) (oi := ⟨some 8, .assign _, _, _, _, _⟩) (.bool false) rfl (by kernel_rfl) (by kernel_rfl) (by kernel_rfl) (fun _ _ _ h => h) (by kernel_rfl) (fun _ _ => rfl) HS1 ?_
  simp only [Act.put, List.setIfInBounds_toArray, List.set_cons_zero, List.set_cons_succ]
  refine wpAnyH_done (by kernel_rfl) ?_ _
  go_wp2
  go_ret
  exact ⟨rfl, HS1.1⟩
def actV (k h : Int) (x : Wr) : Value := .agg #[.int .i64 k, .int .i64 h, .int .i64 x.id, .int .i64 x.addr, .int .i64 x.size, .int .u64 x.data]
set_option maxHeartbeats 8000000 in
theorem none_walk (k h i a z d : Int) (W : World) : Calls Try.prog 4 #[.agg #[.int .i64 k, .int .i64 h, .int .i64 i, .int .i64 a, .int .i64 z, .int .u64 d]] W fun e w' => e = .returned (.bool true) ∧ BW W w' := by
  have HAL := Lib.hid (fun w => alive12_any w)
  have HLD := Lib.hid (load_nil a z)
  have HDR := Lib.hid (drop_nil h)
  have HST := Lib.hid (store_nil h ⟨i, a, z, d⟩)
  have HRE := Lib.hid (reserve_nil h a z)
  have HHE := Lib.hid (held_nil h a z)
  have HBY := Lib.hid bytes_nil
  have HTA := Lib.hid tags_nil
  have HLO := Lib.hid log_nil
  go_enter Try.func4, Try.ntmps4
  go_wp2_with fail
  refine (HAL.out _).mono ?_
  rintro e w1 ⟨rfl, hb⟩
  have HB1 := Lib.hid ((show BW W _ from BW.new (Below.refl _ _) _).on hb)
  have HK1 := Lib.hid ((Blk.new #[.int .i64 k, .int .i64 h, .int .i64 i, .int .i64 a, .int .i64 z, .int .u64 d] 33 W).on hb)
  clear hb
  have q0 : w1.cell? ⟨W.heap.size, 0, none⟩ = some (.int .i64 k) := HK1.out.cell 0
  have q1 : w1.cell? ⟨W.heap.size, 1, none⟩ = some (.int .i64 h) := HK1.out.cell 1
  have q2 : w1.cell? ⟨W.heap.size, 2, none⟩ = some (.int .i64 i) := HK1.out.cell 2
  have q3 : w1.cell? ⟨W.heap.size, 3, none⟩ = some (.int .i64 a) := HK1.out.cell 3
  have q4 : w1.cell? ⟨W.heap.size, 4, none⟩ = some (.int .i64 z) := HK1.out.cell 4
  have q5 : w1.cell? ⟨W.heap.size, 5, none⟩ = some (.int .u64 d) := HK1.out.cell 5
  go_wp2_with fail
  refine (HLD.out _).mono ?_
  rintro e w2 ⟨rfl, hb⟩
  have HB2 := Lib.hid (HB1.out.on hb)
  have HK2 := Lib.hid (HK1.out.on hb)
  clear HB1 HK1 hb q0 q1 q2 q3 q4 q5
  have q0 : w2.cell? ⟨W.heap.size, 0, none⟩ = some (.int .i64 k) := HK2.out.cell 0
  have q1 : w2.cell? ⟨W.heap.size, 1, none⟩ = some (.int .i64 h) := HK2.out.cell 1
  have q2 : w2.cell? ⟨W.heap.size, 2, none⟩ = some (.int .i64 i) := HK2.out.cell 2
  have q3 : w2.cell? ⟨W.heap.size, 3, none⟩ = some (.int .i64 a) := HK2.out.cell 3
  have q4 : w2.cell? ⟨W.heap.size, 4, none⟩ = some (.int .i64 z) := HK2.out.cell 4
  have q5 : w2.cell? ⟨W.heap.size, 5, none⟩ = some (.int .u64 d) := HK2.out.cell 5
  go_wp2_with (first
    | (go_at_call 14; refine (HDR.out _).mono ?_; rintro e wd ⟨rfl, rfl⟩))
  refine (HAL.out _).mono ?_
  rintro e w3 ⟨rfl, hb⟩
  have HB3 := Lib.hid (HB2.out.on hb)
  have HK3 := Lib.hid (HK2.out.on hb)
  clear HB2 HK2 hb q0 q1 q2 q3 q4 q5
  have q0 : w3.cell? ⟨W.heap.size, 0, none⟩ = some (.int .i64 k) := HK3.out.cell 0
  have q1 : w3.cell? ⟨W.heap.size, 1, none⟩ = some (.int .i64 h) := HK3.out.cell 1
  have q2 : w3.cell? ⟨W.heap.size, 2, none⟩ = some (.int .i64 i) := HK3.out.cell 2
  have q3 : w3.cell? ⟨W.heap.size, 3, none⟩ = some (.int .i64 a) := HK3.out.cell 3
  have q4 : w3.cell? ⟨W.heap.size, 4, none⟩ = some (.int .i64 z) := HK3.out.cell 4
  have q5 : w3.cell? ⟨W.heap.size, 5, none⟩ = some (.int .u64 d) := HK3.out.cell 5
  go_wp2_with fail
  refine (HST.out _).mono ?_
  rintro e w4 ⟨rfl, hb⟩
  have HB4 := Lib.hid (HB3.out.on hb)
  have HK4 := Lib.hid (HK3.out.on hb)
  clear HB3 HK3 hb q0 q1 q2 q3 q4 q5
  have q0 : w4.cell? ⟨W.heap.size, 0, none⟩ = some (.int .i64 k) := HK4.out.cell 0
  have q1 : w4.cell? ⟨W.heap.size, 1, none⟩ = some (.int .i64 h) := HK4.out.cell 1
  have q2 : w4.cell? ⟨W.heap.size, 2, none⟩ = some (.int .i64 i) := HK4.out.cell 2
  have q3 : w4.cell? ⟨W.heap.size, 3, none⟩ = some (.int .i64 a) := HK4.out.cell 3
  have q4 : w4.cell? ⟨W.heap.size, 4, none⟩ = some (.int .i64 z) := HK4.out.cell 4
  have q5 : w4.cell? ⟨W.heap.size, 5, none⟩ = some (.int .u64 d) := HK4.out.cell 5
  go_wp2_with fail
  refine (HRE.out _).mono ?_
  rintro e w5 ⟨rfl, hb⟩
  have HB5 := Lib.hid (HB4.out.on hb)
  have HK5 := Lib.hid (HK4.out.on hb)
  clear HB4 HK4 hb q0 q1 q2 q3 q4 q5
  have q0 : w5.cell? ⟨W.heap.size, 0, none⟩ = some (.int .i64 k) := HK5.out.cell 0
  have q1 : w5.cell? ⟨W.heap.size, 1, none⟩ = some (.int .i64 h) := HK5.out.cell 1
  have q2 : w5.cell? ⟨W.heap.size, 2, none⟩ = some (.int .i64 i) := HK5.out.cell 2
  have q3 : w5.cell? ⟨W.heap.size, 3, none⟩ = some (.int .i64 a) := HK5.out.cell 3
  have q4 : w5.cell? ⟨W.heap.size, 4, none⟩ = some (.int .i64 z) := HK5.out.cell 4
  have q5 : w5.cell? ⟨W.heap.size, 5, none⟩ = some (.int .u64 d) := HK5.out.cell 5
  go_wp2_with fail
  refine (HHE.out _).mono ?_
  rintro e w6 ⟨rfl, hb⟩
  have HB6 := Lib.hid (HB5.out.on hb)
  have HK6 := Lib.hid (HK5.out.on hb)
  clear HB5 HK5 hb q0 q1 q2 q3 q4 q5
  have q0 : w6.cell? ⟨W.heap.size, 0, none⟩ = some (.int .i64 k) := HK6.out.cell 0
  have q1 : w6.cell? ⟨W.heap.size, 1, none⟩ = some (.int .i64 h) := HK6.out.cell 1
  have q2 : w6.cell? ⟨W.heap.size, 2, none⟩ = some (.int .i64 i) := HK6.out.cell 2
  have q3 : w6.cell? ⟨W.heap.size, 3, none⟩ = some (.int .i64 a) := HK6.out.cell 3
  have q4 : w6.cell? ⟨W.heap.size, 4, none⟩ = some (.int .i64 z) := HK6.out.cell 4
  have q5 : w6.cell? ⟨W.heap.size, 5, none⟩ = some (.int .u64 d) := HK6.out.cell 5
  go_wp2_with (first
    | (go_at_call 23; refine (HBY.out _).mono ?_; rintro e wd ⟨rfl, rfl⟩)
    | (go_at_call 24; refine (HTA.out _).mono ?_; rintro e wd ⟨rfl, rfl⟩)
    | (go_at_call 25; refine (HLO.out _).mono ?_; rintro e wd ⟨rfl, rfl⟩))
  go_ret
  exact ⟨rfl, HB6.out⟩
theorem ramNone_law (x : Ac) (W : World) (_ : Wac x) : Calls Try.prog 4 #[.agg (acCells x)] W fun e w' => e = .returned (.bool true) ∧ Below W.heap.size W w' :=
  none_walk x.kind x.hart x.w.id x.w.addr x.w.size x.w.data W
end Go.Proofs.Yteoemjhhjnkkiaa
