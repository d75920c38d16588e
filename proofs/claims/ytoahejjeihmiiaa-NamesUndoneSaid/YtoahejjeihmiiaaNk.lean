/- NamesNone: none has nothing. -/
import Derived.Test.YtoahejjeihmiiaaNj
set_option maxRecDepth 100000
set_option linter.unusedVariables false
namespace Go.Proofs.Ytoahejjeihmiiaa
open Go.RowKit

set_option maxHeartbeats 4000000 in
theorem none15_walk (a0 a1 a2 : Int) (W : World) : Calls Try.prog 4 #[.agg #[.int .i64 a0, .int .i64 a1, .int .u64 a2]] W fun e w' => e = .returned (.bool true) ∧ BW W w' := by
  have HB0 := Lib.hid (BW.new (Below.refl _ W) (.cells #[.int .i64 a0, .int .i64 a1, .int .u64 a2] 31))
  have K0 := Lib.hid (Blk.new #[.int .i64 a0, .int .i64 a1, .int .u64 a2] 31 W)
  have HAL := Lib.hid alive15_any
  have HAF : True := trivial
  go_enter Try.func4, Try.ntmps4
  go_upto_region 1 with (fail)
  obtain ⟨B, hB⟩ : ∃ B, W.heap.size = B := ⟨_, rfl⟩
  rw [hB] at K0
  rw [hB]
  clear hB
  generalize World.alloc W _ = w0 at *
  go_wp2_with (first
    | (go_at_call 7; (have HFIRST := HAF); clear HAF; refine (HAL.out _).mono ?_; rintro e w1 ⟨rfl, hb⟩; have HB1 := Lib.hid (BW.on HB0.out hb); have K1 := Lib.hid (K0.out.on hb); have q11 := K1.out.cell 1; have q12 := K1.out.cell 2; clear hb)
    | (go_at_call 7; refine (HAL.out _).mono ?_; rintro e w2 ⟨rfl, hb⟩; have HB2 := Lib.hid (BW.on HB1.out hb); have K2 := Lib.hid (K1.out.on hb); have q21 := K2.out.cell 1; have q22 := K2.out.cell 2; clear hb)
    | (go_at_call 23; refine (value_nil _ _).mono ?_; rintro e wv ⟨rfl, rfl⟩)
    | (go_at_call 10; refine (claim15_nil _ _).mono ?_; rintro e wc ⟨rfl, rfl⟩)
    | (go_at_call 19; refine (look15_nil _ _).mono ?_; rintro e w3 ⟨rfl, hb⟩; have HB3 := Lib.hid (BW.on HB2.out hb); have K3 := Lib.hid (K2.out.on hb); have q31 := K3.out.cell 1; have q32 := K3.out.cell 2; clear hb)
    | (go_at_call 12; refine (set15_nil _ _ _).mono ?_; rintro e w4 ⟨rfl, hb⟩; have HB4 := Lib.hid (BW.on HB3.out hb); have K4 := Lib.hid (K3.out.on hb); have q41 := K4.out.cell 1; have q42 := K4.out.cell 2; clear hb)
    | (go_at_call 14; refine (retire15_nil _).mono ?_; rintro e w5 ⟨rfl, hb⟩; have HB5 := Lib.hid (BW.on HB4.out hb); have K5 := Lib.hid (K4.out.on hb); have q51 := K5.out.cell 1; have q52 := K5.out.cell 2; clear hb)
    | (go_at_call 16; refine (undo15_nil _).mono ?_; rintro e w6 ⟨rfl, hb⟩; have HB6 := Lib.hid (BW.on HB5.out hb); have K6 := Lib.hid (K5.out.on hb); have q61 := K6.out.cell 1; have q62 := K6.out.cell 2; clear hb)
    | (go_at_call 18; refine (claims_nil _).mono ?_; rintro e wd ⟨rfl, rfl⟩)
    | (go_at_call 21; refine (values_nil _).mono ?_; rintro e w7 ⟨rfl, hb⟩; have HB7 := Lib.hid (BW.on HB6.out hb); have K7 := Lib.hid (K6.out.on hb); have q71 := K7.out.cell 1; have q72 := K7.out.cell 2; clear hb)
    | (refine Hz.val_arm (o := ⟨some 75, .build _ _, _, _, _, _⟩) (v := .agg (xCells fun _ => 0)) (by kernel_rfl) (by kernel_rfl) ?_)
    | (refine Hz.val_arm (o := ⟨some 76, .binOp _ _ _ _ _, _, _, _, _⟩) (v := .bool true) (by kernel_rfl) (exec_cmpN rfl guard_xc rfl rfl (eql_xc _ _)) ?_))
  go_ret
  exact ⟨rfl, HB7.out⟩
end Go.Proofs.Ytoahejjeihmiiaa
