/- The document's Result, of every operation. -/
import Derived.Test.YtoifkdjalddhkaaDoorRows
import Derived.Test.YtoifkdjalddhkaaDoorRr
import Derived.WalkKit
import Derived.WalkLawsBesides
import Derived.Deep.QuietTactic
import Derived.BigQuiet
import Derived.WalkSmall
import Derived.WalkSpells
import Derived.Lib.Hide
import Derived.Below
namespace Go.Proofs.YtoifkdjalddhkaaDoor
open Go.RowKit

theorem res_no (op : Int) (ho : I64 op) (h : ¬ (1 ≤ op ∧ op ≤ 75)) : ResAt op := by
  intro i pc a b w hi hpc ha hb
  have HJ : Jn w i w.heap.size (w.alloc (.cells (insCells i) 23)) := ⟨BW.new (Below.refl _ _) _, Blk.new _ _ _, Nat.le_refl _⟩
  have KS := fun i x (h : Jn w i w.heap.size x) => (rsort_any op ho.1 ho.2 x).mono fun e w' (hh : _ ∧ _) => And.intro hh.1 (h.on hh.2)
  have KN := fun i x (h : Jn w i w.heap.size x) => (rname_any op ho.1 ho.2 x).mono fun e w' (hh : _ ∧ _) => And.intro hh.1 (h.on hh.2)
  have KZ := fun x => rzx32 a ha x
  have hn : tx (nmO op) = .string ⟨#[]⟩ := by unfold nmO; rw [if_neg h]; rfl
  have hs : srt op = 0 := by have := srt_spec op; omega
  have HV := Lib.hid (resV_none (op := op) (imm := i.imm) (pc := pc) (a := a) (b := b) (by omega))
  rw [hs] at KS
  rw [hn] at KN
  generalize zxw a = z at *
  clear hs hn h ho ha hb hpc
  unfold insV
  obtain ⟨op', rd, rs1, rs2, imm, aq, rl, pred, succ⟩ := i
  simp only at hi HV ⊢
  subst hi
  unfold insCells at HJ
  simp only at HJ
  obtain ⟨c0, c1, c2, c3, c4, c5, c6, c7, c8⟩ := HJ.cells
  simp only at c0 c1 c2 c3 c4 c5 c6 c7 c8
  go_enter Tryd.func10, Tryd.ntmps10
  go_wp2_with (first
    | (go_at_call 26; refine (KS _ _ HJ).mono ?_; rintro e w1 ⟨rfl, HJ⟩; obtain ⟨c0, c1, c2, c3, c4, c5, c6, c7, c8⟩ := HJ.cells)
    | (go_at_call 21; refine (KZ _).mono ?_; rintro e w' ⟨rfl, rfl⟩)
    | (go_at_call 27; refine (KN _ _ HJ).mono ?_; rintro e w2 ⟨rfl, HJ⟩))
  go_ret
  exact ⟨ret_int HV.out.symm, HJ.1⟩
theorem rres_any (i : Ins) (pc a b : Int) (ho : I64 i.op) (hpc : U64 pc) (ha : U64 a) (hb : U64 b) (w : World) :
    Calls Tryd.prog 10 #[insV i, .int .u64 pc, .int .u64 a, .int .u64 b] w fun e w' => e = .returned (.int .u64 (resV i.op i.imm pc a b)) ∧ Below w.heap.size w w' := by
  by_cases h : 1 ≤ i.op ∧ i.op ≤ 75
  · by_cases ha' : i.op ≤ 10
    · exact res_a i.op (by omega) i pc a b w rfl hpc ha hb
    by_cases hb' : i.op ≤ 21
    · exact res_b i.op (by omega) i pc a b w rfl hpc ha hb
    by_cases hc' : i.op ≤ 30
    · exact res_c i.op (by omega) i pc a b w rfl hpc ha hb
    by_cases hd' : i.op ≤ 40
    · exact res_d i.op (by omega) i pc a b w rfl hpc ha hb
    by_cases he' : i.op ≤ 49
    · exact res_e i.op (by omega) i pc a b w rfl hpc ha hb
    by_cases hf' : i.op ≤ 57
    · exact res_f i.op (by omega) i pc a b w rfl hpc ha hb
    by_cases hg' : i.op ≤ 66
    · exact res_g i.op (by omega) i pc a b w rfl hpc ha hb
    · exact res_h i.op (by omega) i pc a b w rfl hpc ha hb
  · exact res_no i.op ho h i pc a b w rfl hpc ha hb
end Go.Proofs.YtoifkdjalddhkaaDoor
