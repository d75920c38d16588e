/- The document's Result. The document's Result, of every operation. What is asked of the program's functions of package alu (each proved of the code, at its round), and 'alive', walked over it. The contracts of the seven functions of package alu: what is asked of them is so ('calu'), behind the tables that the code lays. -/
import Derived.Test.YtolmecnjolfjgaaGreatDoorRows
import Derived.Test.YtolmecnjolfjgaaGreatDoorAru
import Derived.Test.YtolmecnjolfjgaaGreatDoorSyu
import Derived.Test.YtolmecnjolfjgaaGreatDoorOcu
import Derived.Test.YtolmecnjolfjgaaGreatDoorWxu
import Derived.WalkKit
import Derived.WalkLawsBesides
import Derived.Deep.QuietTactic
import Derived.BigQuiet
import Derived.WalkSmall
import Derived.WalkSpells
import Derived.Lib.Hide
import Derived.Below
import Derived.Test.YtolmecnjolfjgaaGreatDoorRlu
import Derived.LoopTactic
import Derived.Test.YtolmecnjolfjgaaGreatDoorHdu
import Derived.Test.YtolmecnjolfjgaaGreatDoorTiu
import Derived.Test.YtolmecnjolfjgaaGreatDoorOp5u
import Derived.Outline
set_option maxRecDepth 100000
namespace Go.Proofs.YtolmecnjolfjgaaGreatDoor
open Go.RowKit

end Go.Proofs.YtolmecnjolfjgaaGreatDoor
namespace Go.Proofs.YtolmecnjolfjgaaGreatDoor
open Go.RowKit

end Go.Proofs.YtolmecnjolfjgaaGreatDoor
namespace Go.Proofs.YtolmecnjolfjgaaGreatDoor
open Go.RowKit

instance (x : Int) : Decidable (U64 x) := by unfold U64; infer_instance
end Go.Proofs.YtolmecnjolfjgaaGreatDoor
namespace Go.Proofs.YtolmecnjolfjgaaGreatDoor
open Go.RowKit

/-- The tables, as the code lays them. -/
structure Tab8 (w : World) : Prop where
  lasts : TabL w
  pairs : TabI 5 numL8 w
theorem Tab8.below {W w : World} (h : Tab8 W) (hb : Below W.heap.size W w) : Tab8 w := ⟨h.lasts.below hb, h.pairs.below hb⟩

theorem num_at {op : Int} (h : 22 ≤ op ∧ op ≤ 34) : 35 ≤ numP8 op ∧ numP8 op ≤ 49 := by
  have hc : op = 22 ∨ op = 23 ∨ op = 24 ∨ op = 25 ∨ op = 26 ∨ op = 27 ∨ op = 28 ∨ op = 29 ∨ op = 30 ∨ op = 31 ∨ op = 32 ∨ op = 33 ∨ op = 34 := by omega
  rcases hc with rfl | rfl | rfl | rfl | rfl | rfl | rfl | rfl | rfl | rfl | rfl | rfl | rfl <;> decide

theorem res_way (op : Int) : (op = 1 ∧ srt op = 1) ∨ (op = 2 ∧ srt op = 1) ∨ ((op = 3 ∨ op = 4) ∧ srt op = 2) ∨ ((22 ≤ op ∧ op ≤ 34) ∧ srt op = 6) ∨ ((35 ≤ op ∧ op ≤ 49) ∧ srt op = 7) ∨ ((¬ ((1 ≤ op ∧ op ≤ 4) ∨ (22 ≤ op ∧ op ≤ 49))) ∧ srt op ≠ 1 ∧ srt op ≠ 2 ∧ srt op ≠ 6 ∧ srt op ≠ 7) := by
  have hs := srt_spec op
  generalize srt op = k at *
  by_cases h1 : op = 1
  · exact .inl ⟨h1, by omega⟩
  by_cases h2 : op = 2
  · exact .inr (.inl ⟨h2, by omega⟩)
  by_cases h3 : op = 3 ∨ op = 4
  · exact .inr (.inr (.inl ⟨h3, by omega⟩))
  by_cases h6 : 22 ≤ op ∧ op ≤ 34
  · exact .inr (.inr (.inr (.inl ⟨h6, by omega⟩)))
  by_cases h7 : 35 ≤ op ∧ op ≤ 49
  · exact .inr (.inr (.inr (.inr (.inl ⟨h7, by omega⟩))))
  · exact .inr (.inr (.inr (.inr (.inr ⟨by omega, by omega, by omega, by omega, by omega⟩))))
section
variable (i : Ins) (pc a b : Int) (ho : I64 i.op) (ha : U64 a) (hb : U64 b) (w : World) (T : Tab8 w)
include ho ha hb T
theorem result_c : Calls Tryz.prog 154 #[insV i, .int .u64 pc, .int .u64 a, .int .u64 b] w fun e w' => e = .returned (.int .u64 (resV i.op i.imm pc a b)) ∧ Below w.heap.size w w' := by
  have HJ : Jn w i w.heap.size (w.alloc (.cells (insCells i) 40)) := ⟨BW.new (Below.refl _ _) _, Blk.new _ _ _, Nat.le_refl _⟩
  have T1 := T.below HJ.1
  have KS := fun x (h : TabL x) => sort_c i.op ho x h
  have KP := fun p (hp : 35 ≤ p ∧ p ≤ 49) x => ofpair_c p a b hp ha hb x
  have KN := fun p (hp : 35 ≤ p ∧ p ≤ 49) x => ofpair_c p a (IntKind.u64.wrap i.imm) hp ha (w_U _) x
  have hr1 : i.op = 1 → resV i.op i.imm pc a b = IntKind.u64.wrap i.imm := fun h => by unfold resV; rw [if_pos h]
  have hr2 : i.op = 2 → resV i.op i.imm pc a b = IntKind.u64.wrap (pc + IntKind.u64.wrap i.imm) := fun h => by unfold resV; rw [if_neg (by omega), if_pos h, IntKind.wrap_u64 (pc + _)]; rfl
  have hr3 : i.op = 3 ∨ i.op = 4 → resV i.op i.imm pc a b = IntKind.u64.wrap (pc + 4) := fun h => by unfold resV; rw [if_neg (by omega), if_neg (by omega), if_pos h, IntKind.wrap_u64]; rfl
  have hr6 : 22 ≤ i.op ∧ i.op ≤ 34 → resV i.op i.imm pc a b = pairV (numP8 i.op) a (IntKind.u64.wrap i.imm) := fun h => res_n _ h rfl
  have hr7 : 35 ≤ i.op ∧ i.op ≤ 49 → resV i.op i.imm pc a b = pairV i.op a b := fun h => res_p h
  have hr0 : ¬ ((1 ≤ i.op ∧ i.op ≤ 4) ∨ (22 ≤ i.op ∧ i.op ≤ 49)) → resV i.op i.imm pc a b = 0 := fun h => resV_none h
  have hc : (i.op = 1 ∧ srt i.op = 1) ∨ (i.op = 2 ∧ srt i.op = 1) ∨ ((i.op = 3 ∨ i.op = 4) ∧ srt i.op = 2) ∨ ((22 ≤ i.op ∧ i.op ≤ 34) ∧ srt i.op = 6) ∨ ((35 ≤ i.op ∧ i.op ≤ 49) ∧ srt i.op = 7) ∨ ((¬ ((1 ≤ i.op ∧ i.op ≤ 4) ∨ (22 ≤ i.op ∧ i.op ≤ 49))) ∧ srt i.op ≠ 1 ∧ srt i.op ≠ 2 ∧ srt i.op ≠ 6 ∧ srt i.op ≠ 7) := res_way i.op
  have HTL := T1.lasts
  have HTP := T1.pairs
  clear ho ha hb T T1
  obtain ⟨op, rd, rs1, rs2, imm, aq, rl, pred, succ⟩ := i
  unfold insV
  unfold insCells at HJ HTL HTP
  simp only at KS KP KN hr1 hr2 hr3 hr6 hr7 hr0 hc HJ HTL HTP ⊢
  obtain ⟨c0, c1, c2, c3, c4, c5, c6, c7, c8⟩ := HJ.cells
  simp only at c0 c1 c2 c3 c4 c5 c6 c7 c8
  clear c1 c2 c3 c5 c6 c7 c8
  have HB := Lib.hid HJ.1
  clear HJ
  rcases hc with ⟨h, hk⟩ | ⟨h, hk⟩ | ⟨h, hk⟩ | ⟨h, hk⟩ | ⟨h, hk⟩ | ⟨h, hk⟩
  · have HV := Lib.hid (hr1 h)
    rw [hk] at KS
    subst h
    clear hr1 hr2 hr3 hr6 hr7 hr0 hk KP KN HTP
    go_enter Tryz.func154, Tryz.ntmps154
    go_wp2_with (first | (go_at_call 56; refine (KS _ HTL).mono ?_; rintro e w2 ⟨rfl, rfl⟩))
    go_ret
    exact ⟨ret_int HV.out.symm, HB.out⟩
  · have HV := Lib.hid (hr2 h)
    rw [hk] at KS
    subst h
    clear hr1 hr2 hr3 hr6 hr7 hr0 hk KP KN HTP
    go_enter Tryz.func154, Tryz.ntmps154
    go_wp2_with (first | (go_at_call 56; refine (KS _ HTL).mono ?_; rintro e w2 ⟨rfl, rfl⟩))
    go_ret
    exact ⟨ret_int HV.out.symm, HB.out⟩
  · have HV := Lib.hid (hr3 h)
    rw [hk] at KS
    clear hr1 hr2 hr3 hr6 hr7 hr0 hk KP KN HTP h
    go_enter Tryz.func154, Tryz.ntmps154
    go_wp2_with (first | (go_at_call 56; refine (KS _ HTL).mono ?_; rintro e w2 ⟨rfl, rfl⟩))
    go_ret
    exact ⟨ret_int HV.out.symm, HB.out⟩
  · have HV := Lib.hid (hr6 h)
    rw [hk] at KS
    have HN := num_at h
    have KN := fun x => KN _ HN x
    have cp := HTP (op - 22).toNat (by simp [numL8]; omega)
    rw [show numL8.getD (op - 22).toNat 0 = numP8 op from rfl] at cp
    obtain ⟨o1, o2⟩ := h
    generalize numP8 op = p at *
    clear hr1 hr2 hr3 hr6 hr7 hr0 hk KP HN
    go_enter Tryz.func154, Tryz.ntmps154
    go_wp2_with (first | (go_at_call 56; refine (KS _ HTL).mono ?_; rintro e w2 ⟨rfl, rfl⟩) | (go_at_call 192; refine (KN _).mono ?_; rintro e w2 ⟨rfl, rfl⟩))
    go_ret
    exact ⟨ret_int HV.out.symm, HB.out⟩
  · have HV := Lib.hid (hr7 h)
    rw [hk] at KS
    have KP := fun x => KP _ h x
    clear hr1 hr2 hr3 hr6 hr7 hr0 hk KN HTP h
    go_enter Tryz.func154, Tryz.ntmps154
    go_wp2_with (first | (go_at_call 56; refine (KS _ HTL).mono ?_; rintro e w2 ⟨rfl, rfl⟩) | (go_at_call 192; refine (KP _).mono ?_; rintro e w2 ⟨rfl, rfl⟩))
    go_ret
    exact ⟨ret_int HV.out.symm, HB.out⟩
  · have HV := Lib.hid (hr0 h)
    generalize srt op = k at *
    obtain ⟨k1, k2, k6, k7⟩ := hk
    have b1 : (k == 1) = false := by simpa using k1
    have b2 : (k == 2) = false := by simpa using k2
    have b6 : (k == 6) = false := by simpa using k6
    have b7 : (k == 7) = false := by simpa using k7
    clear hr1 hr2 hr3 hr6 hr7 hr0 KN KP HTP h k1 k2 k6 k7
    go_enter Tryz.func154, Tryz.ntmps154
    go_wp2_with (first | (go_at_call 56; refine (KS _ HTL).mono ?_; rintro e w2 ⟨rfl, rfl⟩))
    go_ret
    exact ⟨ret_int HV.out.symm, HB.out⟩
end

section
variable (i : Ins) (a b : Int) (ho : I64 i.op) (ha : U64 a) (hb : U64 b) (w : World)
include ha hb
theorem taken_c : Calls Tryz.prog 155 #[insV i, .int .u64 a, .int .u64 b] w fun e w' => e = .returned (.bool (takV i.op a b)) ∧ Below w.heap.size w w' := by
  have HJ : Jn w i w.heap.size (w.alloc (.cells (insCells i) 40)) := ⟨BW.new (Below.refl _ _) _, Blk.new _ _ _, Nat.le_refl _⟩
  have KL := fun x => less_c a b ha hb x
  have hv : takV i.op a b = if i.op = 5 then a == b else if i.op = 6 then a != b else if i.op = 7 then lowB a b else if i.op = 8 then !lowB a b else if i.op = 9 then decide (a < b) else if i.op = 10 then !decide (a < b) else false := rfl
  have hc : i.op = 5 ∨ i.op = 6 ∨ i.op = 7 ∨ i.op = 8 ∨ i.op = 9 ∨ i.op = 10 ∨ (i.op ≠ 5 ∧ i.op ≠ 6 ∧ i.op ≠ 7 ∧ i.op ≠ 8 ∧ i.op ≠ 9 ∧ i.op ≠ 10) := by omega
  clear ha hb
  obtain ⟨op, rd, rs1, rs2, imm, aq, rl, pred, succ⟩ := i
  unfold insV
  unfold insCells at HJ
  simp only at hv hc HJ ⊢
  obtain ⟨c0, c1, c2, c3, c4, c5, c6, c7, c8⟩ := HJ.cells
  simp only at c0 c1 c2 c3 c4 c5 c6 c7 c8
  clear c1 c2 c3 c4 c5 c6 c7 c8
  have HB := Lib.hid HJ.1
  clear HJ
  rcases hc with rfl | rfl | rfl | rfl | rfl | rfl | ⟨h5, h6, h7, h8, h9, h10⟩
  case' inr.inr.inr.inr.inr.inr =>
    have b5 : (op == 5) = false := by simpa using h5
    have b6 : (op == 6) = false := by simpa using h6
    have b7 : (op == 7) = false := by simpa using h7
    have b8 : (op == 8) = false := by simpa using h8
    have b9 : (op == 9) = false := by simpa using h9
    have b10 : (op == 10) = false := by simpa using h10
    rw [if_neg h5, if_neg h6, if_neg h7, if_neg h8, if_neg h9, if_neg h10] at hv
    clear h5 h6 h7 h8 h9 h10
  all_goals
    have HV := Lib.hid hv
    clear hv
    generalize lowB a b = c at *
    go_enter Tryz.func155, Tryz.ntmps155
    go_wp2_with (first | (go_at_call 191; refine (KL _).mono ?_; rintro e w2 ⟨rfl, rfl⟩))
    go_ret
    exact ⟨ret_bool (by rw [HV.out]; first | done | (simp; done) | (simp; rw [Bool.eq_iff_iff]; simp)), HB.out⟩
end

section
variable (i : Ins) (pc a b : Int) (ha : U64 a) (hb : U64 b) (w : World)
include ha hb
theorem next_c : Calls Tryz.prog 97 #[insV i, .int .u64 pc, .int .u64 a, .int .u64 b] w fun e w' => e = .returned (.int .u64 (nxtV i.op i.imm pc a b)) ∧ Below w.heap.size w w' := by
  have HJ : Jn w i w.heap.size (w.alloc (.cells (insCells i) 40)) := ⟨BW.new (Below.refl _ _) _, Blk.new _ _ _, Nat.le_refl _⟩
  have KT := fun x => taken_c i a b ha hb x
  have hv : nxtV i.op i.imm pc a b = if i.op = 3 ∨ takV i.op a b = true then IntKind.u64.wrap (pc + IntKind.u64.wrap i.imm) else if i.op = 4 then IntKind.u64.wrap (a + IntKind.u64.wrap i.imm) - IntKind.u64.wrap (a + IntKind.u64.wrap i.imm) % 2 else IntKind.u64.wrap (pc + 4) := by
    rw [IntKind.wrap_u64 (pc + _), IntKind.wrap_u64 (pc + 4), IntKind.wrap_u64 (a + _)]; rfl
  have ht4 : i.op = 4 → takV i.op a b = false := fun h => by rw [h]; rfl
  have he := even_bits (w_U (a + IntKind.u64.wrap i.imm))
  have hc : i.op = 3 ∨ i.op = 4 ∨ (i.op ≠ 3 ∧ i.op ≠ 4) := by omega
  clear ha hb
  obtain ⟨op, rd, rs1, rs2, imm, aq, rl, pred, succ⟩ := i
  unfold insV at KT ⊢
  unfold insCells at HJ
  simp only at KT hv ht4 he hc HJ ⊢
  have HE := Lib.hid he
  clear he
  obtain ⟨c0, c1, c2, c3, c4, c5, c6, c7, c8⟩ := HJ.cells
  simp only at c0 c1 c2 c3 c4 c5 c6 c7 c8
  have HBK := HJ.2.1
  have HB := Lib.hid HJ.1
  clear HJ
  rcases hc with rfl | rfl | ⟨h3, h4⟩
  · rw [if_pos (.inl rfl)] at hv
    have HV := Lib.hid hv
    clear hv ht4 KT
    go_enter Tryz.func97, Tryz.ntmps97
    go_wp2
    go_ret
    exact ⟨ret_int HV.out.symm, HB.out⟩
  · rw [ht4 rfl, if_neg (by decide), if_pos rfl] at hv
    have HV := Lib.hid hv
    clear hv ht4 KT
    go_enter Tryz.func97, Tryz.ntmps97
    go_wp2
    go_ret
    exact ⟨ret_int (by rw [HV.out, ← HE.out]), HB.out⟩
  · have b3 : (op == 3) = false := by simpa using h3
    have b4 : (op == 4) = false := by simpa using h4
    rw [if_neg h4] at hv
    have hv' : nxtV op imm pc a b = if takV op a b = true then IntKind.u64.wrap (pc + IntKind.u64.wrap imm) else IntKind.u64.wrap (pc + 4) := by rw [hv]; simp [h3]
    have HV := Lib.hid hv'
    clear hv hv' ht4 h3 h4
    generalize takV op a b = t at *
    cases t
    all_goals
      have HV := Lib.hid HV.out
      go_enter Tryz.func97, Tryz.ntmps97
      go_wp2_with (first
        | (with_reducible refine load_blk (o := ⟨some 25, _, _, _, _, _⟩) rfl 40 (.tmp 4) rfl HBK rfl Tryz.underlying40 rfl (by kernel_rfl) ?_)
        | (go_at_call 155; refine (KT _).mono ?_; rintro e w2 ⟨rfl, hb2⟩; have HB2 := Lib.hid (BW.on HB.out hb2)))
      go_ret
      exact ⟨ret_int (by rw [HV.out]; rfl), HB2.out⟩
end
end Go.Proofs.YtolmecnjolfjgaaGreatDoor
