/- Package guess: number, aside, isBranch, Counter. -/
import Derived.Test.YtdcmpmmbmjaaiaaDoorGa
import Derived.Test.YtdcmpmmbmjaaiaaDoorOp5
import Derived.Test.YtdcmpmmbmjaaiaaDoorJn
set_option maxRecDepth 100000
namespace Go.Proofs.YtdcmpmmbmjaaiaaDoor
open Go.RowKit

theorem number_c (pc : Int) (h0 : 0 ≤ pc) (h1 : pc ≤ 18446744073709551615) (w : World) : Calls Tryd.prog 18 #[.int .u64 pc] w fun e w' => e = .returned (.int .u64 (numG pc : Int)) ∧ w = w' := by
  have HV := Lib.hid (numG_int pc)
  go_enter Tryd.func18, Tryd.ntmps18
  go_wp2
  go_ret
  exact ⟨ret_int (by rw [HV.out]), rfl⟩
theorem number_q (pc : Int) (h0 : 0 ≤ pc) (h1 : pc ≤ 18446744073709551615) (w : World) : Calls Tryd.prog 18 #[.int .u64 pc] w fun e w' => e = .returned (.int .u64 (numG pc : Int)) ∧ w' = w :=
  (number_c pc h0 h1 w).mono fun _ _ ⟨he, hw⟩ => ⟨he, hw.symm⟩
theorem aside_c (i : Ins) (pc : Int) (w : World) : Calls Tryd.prog 14 #[insV i, .int .u64 pc] w fun e w' => e = .returned (.int .u64 (asdG i pc)) ∧ BW w w' := by
  obtain ⟨op, rd, rs1, rs2, imm, aq, rl, pred, succ⟩ := i
  have HB := Lib.hid (BW.new (Below.refl _ w) (.cells #[.int .i64 op, .int .i64 rd, .int .i64 rs1, .int .i64 rs2, .int .i64 imm, .bool aq, .bool rl, .int .i64 pred, .int .i64 succ] 24))
  unfold insV asdG
  simp only
  go_enter Tryd.func14, Tryd.ntmps14
  go_wp2
  go_ret
  exact ⟨rfl, HB.out⟩
theorem branch_c (i : Ins) (ho : I64 i.op) (w : World) (hT : TabL w) : Calls Tryd.prog 13 #[insV i] w fun e w' => e = .returned (.bool (decide (srt i.op = 3))) ∧ BW w w' := by
  have HB := Lib.hid (BW.new (Below.refl _ w) (.cells (insCells i) 24))
  have HT := hT.below HB.out
  have KS := sort_c i.op ho _ HT
  clear ho hT HT
  obtain ⟨op, rd, rs1, rs2, imm, aq, rl, pred, succ⟩ := i
  unfold insV
  unfold insCells at HB KS
  simp only at HB KS ⊢
  generalize srt op = k at *
  go_enter Tryd.func13, Tryd.ntmps13
  go_wp2_with (first | (go_at_call 19; refine KS.mono ?_; rintro e w2 ⟨rfl, rfl⟩))
  go_ret
  exact ⟨ret_bool (by by_cases h : k = 3 <;> simp [h]), HB.out⟩
end Go.Proofs.YtdcmpmmbmjaaiaaDoor
