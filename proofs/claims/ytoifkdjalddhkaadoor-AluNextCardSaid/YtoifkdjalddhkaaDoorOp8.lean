/- The tables that the rows list; the laws of layer 8 as the claims ask them (over 'calu', what is asked of package alu, proved of the code). -/
import Derived.Test.YtoifkdjalddhkaaDoorRows
import Derived.Test.YtoifkdjalddhkaaDoorBa
import Derived.Test.YtoifkdjalddhkaaDoorTi
import Derived.Test.YtoifkdjalddhkaaDoorKd
import Derived.Test.YtoifkdjalddhkaaDoorLr
import Derived.Test.YtoifkdjalddhkaaDoorLn
import Derived.Test.YtoifkdjalddhkaaDoorLm
import Derived.Test.YtoifkdjalddhkaaDoorLp
import Derived.Test.YtoifkdjalddhkaaDoorLb
import Derived.WalkKit
import Derived.ProofKit
import Derived.OpenShut
import Derived.Laws.Cover2
namespace Go.Proofs.YtoifkdjalddhkaaDoor
open Go.ChangeShapes Go.WideShapes Go.ChangeAt Go.RowKit Go.Deep

theorem tab8_laid {W : World} (hL : laidMetH Tryd.prog Rows.aluResultsRow.laid W) : Tab8 W := by
  have hp : (Rows.aluResultsRow.laid.all fun x => x.2.handleName?.isNone) = true := by kernel_rfl
  have h0 := flat_blk (d := Rows.laid_undertow_ops_lasts) (g := 1) (t := 39) 8 hL (List.mem_of_getElem? (i := 0) rfl) hp (by kernel_rfl) (by kernel_rfl) (by kernel_rfl)
  have e0 : flatD 8 Rows.laid_undertow_ops_lasts = lsL.map (Value.int .i64) := by kernel_rfl
  rw [e0] at h0
  have h1 := tabI_of (d := Rows.laid_undertow_alu_pairs) (g := 0) (t := 39) numL8 hL (List.mem_of_getElem? (i := 1) rfl) hp (by kernel_rfl) (by kernel_rfl) (by kernel_rfl) (by kernel_rfl)
  exact ⟨h0, h1⟩

/-! ### The laws as the claims ask them -/
theorem aluResults_law (i : Ins) (pc a b : Int) (W : World) (hL : laidMetH Tryd.prog Rows.aluResultsRow.laid W) (wo : I64 i.op) (wp : (Lit.int .u64 pc).wf = true) (wa : (Lit.int .u64 a).wf = true) (wb : (Lit.int .u64 b).wf = true) :
    Calls Tryd.prog 3 #[insV i, .int .u64 pc, .int .u64 a, .int .u64 b] W fun e w' => e = .returned (.bool true) ∧ Below W.heap.size W w' := results_law (calu (tab8_laid hL)) i pc a b wo (wf_u64_out wp) (wf_u64_out wa) (wf_u64_out wb)
theorem aluNext_law (i : Ins) (pc a b : Int) (W : World) (hL : laidMetH Tryd.prog Rows.aluNextRow.laid W) (wo : I64 i.op) (wp : (Lit.int .u64 pc).wf = true) (wa : (Lit.int .u64 a).wf = true) (wb : (Lit.int .u64 b).wf = true) :
    Calls Tryd.prog 4 #[insV i, .int .u64 pc, .int .u64 a, .int .u64 b] W fun e w' => e = .returned (.bool true) ∧ Below W.heap.size W w' := next_law (calu (tab8_laid hL)) i pc a b wo (wf_u64_out wp) (wf_u64_out wa) (wf_u64_out wb)
theorem aluMemory_law (i : Ins) (a old b : Int) (W : World) (hL : laidMetH Tryd.prog Rows.aluMemoryRow.laid W) (wo : I64 i.op) (wa : (Lit.int .u64 a).wf = true) (wd : (Lit.int .u64 old).wf = true) (wb : (Lit.int .u64 b).wf = true) :
    Calls Tryd.prog 5 #[insV i, .int .u64 a, .int .u64 old, .int .u64 b] W fun e w' => e = .returned (.bool true) ∧ Below W.heap.size W w' := memory_law (calu (tab8_laid hL)) i a old b wo (wf_u64_out wa) (wf_u64_out wd) (wf_u64_out wb)
theorem aluPairs_law (imm a b : Int) (W : World) (hL : laidMetH Tryd.prog Rows.aluPairsRow.laid W) (_ : (Lit.int .i64 imm).wf = true) (wa : (Lit.int .u64 a).wf = true) (wb : (Lit.int .u64 b).wf = true) :
    Calls Tryd.prog 6 #[.int .i64 imm, .int .u64 a, .int .u64 b] W fun e w' => e = .returned (.bool true) ∧ Below W.heap.size W w' := pairs_law (calu (tab8_laid hL)) imm a b (wf_u64_out wa) (wf_u64_out wb)
theorem aluBack_law (a b n : Int) (W : World) (hL : laidMetH Tryd.prog Rows.aluBackRow.laid W) (wa : (Lit.int .u64 a).wf = true) (wb : (Lit.int .u64 b).wf = true) (wn : (Lit.int .u8 n).wf = true) :
    Calls Tryd.prog 7 #[.int .u64 a, .int .u64 b, .int .u8 n] W fun e w' => e = .returned (.bool true) ∧ Below W.heap.size W w' := back8_law (calu (tab8_laid hL)) a b n (wf_u64_out wa) (wf_u64_out wb) (wf_u8_out wn)
end Go.Proofs.YtoifkdjalddhkaaDoor
