/- The contracts of the program's nine functions of package ops: what is asked of them is so ('cops'), behind the tables that the code lays. -/
import Derived.Test.YtolmecnjolfjgaaGreatDoorRows
import Derived.Test.YtolmecnjolfjgaaGreatDoorOp5l
import Derived.WalkKit
import Derived.WalkLawsBesides
import Derived.Deep.QuietTactic
import Derived.BigQuiet
import Derived.WalkSmall
import Derived.WalkSpells
import Derived.Lib.Hide
import Derived.Below
import Derived.OwnWalk
import Derived.Laws.AppendOwn
set_option maxRecDepth 100000
namespace Go.Proofs.YtolmecnjolfjgaaGreatDoor
open Go.RowKit

theorem target_c (i : Ins) (ho : I64 i.op) (w : World) (hT : TabL w) :
    Calls Tryz.prog 95 #[insV i] w fun e w' => e = .returned (.int .i64 (tgt i)) ∧ Below w.heap.size w w' := by
  have HI := Lib.hid (InsAt.new i w 40)
  have HB : Hid (Below w.heap.size w (w.alloc (.cells (insCells i) 40))) := (Below.refl _ _).alloc (Nat.le_refl _) _
  have HW := writes_c i.op ho _ (hT.below HB.out)
  have HR := fun w => register_c i.rd w
  unfold insV
  unfold insCells at HI HB HW
  clear hT
  cases hw : wrB i.op
  · have HV : Hid (tgt i = 0) := by show _ = _; unfold tgt; rw [hw]; rfl
    rw [hw] at HW
    clear hw
    obtain ⟨op, rd, rs1, rs2, imm, aq, rl, pred, succ⟩ := i
    simp only at HW HR ⊢
    go_enter Tryz.func95, Tryz.ntmps95
    go_wp2_with (first
      | (go_at_call 151; refine HW.mono ?_; rintro e w1 ⟨rfl, rfl⟩))
    go_ret
    exact ⟨ret_int HV.out.symm, HB.out⟩
  · have HV : Hid (tgt i = regV i.rd) := by show _ = _; unfold tgt; rw [hw]; rfl
    rw [hw] at HW
    clear hw
    obtain ⟨op, rd, rs1, rs2, imm, aq, rl, pred, succ⟩ := i
    simp only at HW HR HV ⊢
    go_enter Tryz.func95, Tryz.ntmps95
    go_wp2_with (first
      | (go_at_call 151; refine HW.mono ?_; rintro e w1 ⟨rfl, rfl⟩)
      | (go_at_call 152; refine (HR _).mono ?_; rintro e w1 ⟨rfl, rfl⟩))
    go_ret
    exact ⟨ret_int HV.out.symm, HB.out⟩

theorem reg_yes {r : Int} (h : 1 ≤ r ∧ r ≤ 31) : regV r = r := if_pos (by omega)
theorem reg_no {r : Int} (h : ¬ (1 ≤ r ∧ r ≤ 31)) : regV r = 0 := by
  unfold regV
  split <;> omega
theorem srcs_of (i : Ins) (a b : List Int) (h1 : (if firB i.op && decide (1 ≤ i.rs1 ∧ i.rs1 ≤ 31) then [i.rs1] else []) = a) (h2 : (if secB i.op && decide (1 ≤ i.rs2 ∧ i.rs2 ≤ 31) then [i.rs2] else []) = b) : srcs i = a ++ b := by
  unfold srcs; rw [h1, h2]
/-- What a register counts as, and whether it is read. -/
def Part (f : Bool) (r x : Int) (l : List Int) : Prop := (x = 0 ∧ l = []) ∨ (f = false ∧ x = r ∧ 1 ≤ r ∧ l = []) ∨ (f = true ∧ x = r ∧ 1 ≤ r ∧ l = [r])
theorem part_of (f : Bool) (r : Int) : Part f r (regV r) (if f && decide (1 ≤ r ∧ r ≤ 31) then [r] else []) := by
  by_cases h : 1 ≤ r ∧ r ≤ 31
  · rw [reg_yes h, decide_eq_true h]
    cases f
    · exact .inr (.inl ⟨rfl, rfl, h.1, rfl⟩)
    · exact .inr (.inr ⟨rfl, rfl, h.1, rfl⟩)
  · rw [reg_no h, decide_eq_false h]
    exact .inl ⟨rfl, by cases f <;> rfl⟩
set_option maxHeartbeats 4000000 in
theorem sources_n (i : Ins) (ho : I64 i.op) (w : World) (hT : TabL w) : Calls Tryz.prog 147 #[insV i] w (RetN w (srcs i)) := by
  obtain ⟨i0, hi, hz0, hz1, hz2⟩ := info_parts info_int
  have HI := Lib.hid (InsAt.new i w 40)
  have HB : Hid (Below w.heap.size w (w.alloc (.cells (insCells i) 40))) := (Below.refl _ _).alloc (Nat.le_refl _) _
  have HF := first_c i.op ho _ (hT.below HB.out)
  have HS := fun w' (hb : Below w.heap.size w w') => second_c i.op ho w' (hT.below hb)
  have HR1 := fun w => register_c i.rs1 w
  have HR2 := fun w => register_c i.rs2 w
  have P1 := part_of (firB i.op) i.rs1
  have P2 := part_of (secB i.op) i.rs2
  have HV := Lib.hid (srcs_of i)
  unfold insV
  unfold insCells at HI HB HF
  generalize srcs i = sl at *
  generalize (if firB i.op && decide (1 ≤ i.rs1 ∧ i.rs1 ≤ 31) then [i.rs1] else []) = l1 at *
  generalize (if secB i.op && decide (1 ≤ i.rs2 ∧ i.rs2 ≤ 31) then [i.rs2] else []) = l2 at *
  have HV : Hid (sl = l1 ++ l2) := HV.out _ _ rfl rfl
  generalize firB i.op = f at *
  generalize secB i.op = s at *
  generalize regV i.rs1 = x1 at *
  generalize regV i.rs2 = x2 at *
  clear hT
  obtain ⟨op, rd, rs1, rs2, imm, aq, rl, pred, succ⟩ := i
  simp only at HF HS HR1 HR2 P1 P2 HI HB ⊢
  rcases P1 with ⟨rfl, rfl⟩ | ⟨rfl, rfl, g1, rfl⟩ | ⟨rfl, rfl, g1, rfl⟩ <;> rcases P2 with ⟨rfl, rfl⟩ | ⟨rfl, rfl, g2, rfl⟩ | ⟨rfl, rfl, g2, rfl⟩
  all_goals
    try (have n1 : (x1 != 0) = true := by simp; omega)
    try (have n2 : (x2 != 0) = true := by simp; omega)
    go_enter Tryz.func147, Tryz.ntmps147
    go_upto_region 1 with (fail)
    generalize w.alloc (.cells _ 40) = w1 at *
    obtain ⟨q0, q1, q2, q3⟩ := HI.out.cells
    simp only at q0 q1 q2 q3
    first
    | (go_wp2_with (first | (go_at_call 152; ((with_reducible refine (HR1 _).mono ?_); rintro e wx ⟨rfl, rfl⟩)) | (go_at_call 152; ((with_reducible refine (HR2 _).mono ?_); rintro e wx ⟨rfl, rfl⟩)) | (go_at_call 187; refine HF.mono ?_; rintro e wx ⟨rfl, rfl⟩) | (go_at_call 188; refine (HS _ HB.out).mono ?_; rintro e wx ⟨rfl, rfl⟩))
       go_ret
       exact ⟨none, 0, by rw [HV.out]; rfl, .inl (by rw [HV.out]; rfl), HB.out, fun _ h => by cases h⟩)
    | (go_wp2_with (first | (at_builtin; refine wpList_append_own _ rfl _ _ 123 rfl w.heap.size 3 i0 (.int .i64 0) 1 8 Tryz.underlying123 hi hz0 hz1 hz2 rfl (by decide) _ 0 [] rfl (World.ownsRow_nil _ _ _ _) ⟨w1.heap.size, 0, none⟩ 1 1 [.int .i64 x1] rfl rfl (cell_new _ _ _) (by simp [Value.oneCell']) (by unfold maxLen; omega) (by omega) (by have := HB.out.size; simp; omega) ?_) | (go_at_call 152; ((with_reducible refine (HR1 _).mono ?_); rintro e wx ⟨rfl, rfl⟩)) | (go_at_call 152; ((with_reducible refine (HR2 _).mono ?_); rintro e wx ⟨rfl, rfl⟩)) | (go_at_call 187; refine HF.mono ?_; rintro e wx ⟨rfl, rfl⟩) | (go_at_call 188; refine (HS _ HB.out).mono ?_; rintro e wx ⟨rfl, rfl⟩))
       intro v1 wa hown1 hgrow1 hnn
       clear hnn
       have hpa := past_grown hgrow1
       have HBA : Hid (Below w.heap.size w wa) := HB.out.trans (hpa.mono HB.out.size)
       have HIA := Lib.hid (HI.out.on hpa)
       obtain ⟨qa0, qa1, qa2, qa3⟩ := HIA.out.cells
       simp only at qa0 qa1 qa2 qa3
       have HO1 := Lib.hid hown1
       clear hgrow1 hpa hown1
       go_wp2_with (first | (go_at_call 152; ((with_reducible refine (HR1 _).mono ?_); rintro e wx ⟨rfl, rfl⟩)) | (go_at_call 152; ((with_reducible refine (HR2 _).mono ?_); rintro e wx ⟨rfl, rfl⟩)) | (go_at_call 187; refine HF.mono ?_; rintro e wx ⟨rfl, rfl⟩) | (go_at_call 188; refine (HS _ HBA.out).mono ?_; rintro e wx ⟨rfl, rfl⟩))
       go_ret
       exact RetN.of_own (by rw [HV.out]; exact HO1.out) HBA.out)
    | (go_wp2_with (first | (at_builtin; refine wpList_append_own _ rfl _ _ 123 rfl w.heap.size 3 i0 (.int .i64 0) 1 8 Tryz.underlying123 hi hz0 hz1 hz2 rfl (by decide) _ 0 [] rfl (World.ownsRow_nil _ _ _ _) ⟨w1.heap.size, 0, none⟩ 1 1 [.int .i64 x2] rfl rfl (cell_new _ _ _) (by simp [Value.oneCell']) (by unfold maxLen; omega) (by omega) (by have := HB.out.size; simp; omega) ?_) | (go_at_call 152; ((with_reducible refine (HR1 _).mono ?_); rintro e wx ⟨rfl, rfl⟩)) | (go_at_call 152; ((with_reducible refine (HR2 _).mono ?_); rintro e wx ⟨rfl, rfl⟩)) | (go_at_call 187; refine HF.mono ?_; rintro e wx ⟨rfl, rfl⟩) | (go_at_call 188; refine (HS _ HB.out).mono ?_; rintro e wx ⟨rfl, rfl⟩))
       intro v1 wa hown1 hgrow1 hnn
       clear hnn
       have hpa := past_grown hgrow1
       have HBA : Hid (Below w.heap.size w wa) := HB.out.trans (hpa.mono HB.out.size)
       have HO1 := Lib.hid hown1
       clear hgrow1 hpa hown1
       go_wp2
       go_ret
       exact RetN.of_own (by rw [HV.out]; exact HO1.out) HBA.out)
    | (go_wp2_with (first | (at_builtin; refine wpList_append_own _ rfl _ _ 123 rfl w.heap.size 3 i0 (.int .i64 0) 1 8 Tryz.underlying123 hi hz0 hz1 hz2 rfl (by decide) _ 0 [] rfl (World.ownsRow_nil _ _ _ _) ⟨w1.heap.size, 0, none⟩ 1 1 [.int .i64 x1] rfl rfl (cell_new _ _ _) (by simp [Value.oneCell']) (by unfold maxLen; omega) (by omega) (by have := HB.out.size; simp; omega) ?_) | (go_at_call 152; ((with_reducible refine (HR1 _).mono ?_); rintro e wx ⟨rfl, rfl⟩)) | (go_at_call 152; ((with_reducible refine (HR2 _).mono ?_); rintro e wx ⟨rfl, rfl⟩)) | (go_at_call 187; refine HF.mono ?_; rintro e wx ⟨rfl, rfl⟩) | (go_at_call 188; refine (HS _ HB.out).mono ?_; rintro e wx ⟨rfl, rfl⟩))
       intro v1 wa hown1 hgrow1 hnn
       clear hnn
       have hpa := past_grown hgrow1
       have HBA : Hid (Below w.heap.size w wa) := HB.out.trans (hpa.mono HB.out.size)
       have HIA := Lib.hid (HI.out.on hpa)
       obtain ⟨qa0, qa1, qa2, qa3⟩ := HIA.out.cells
       simp only at qa0 qa1 qa2 qa3
       have HO1 := Lib.hid hown1
       clear hgrow1 hpa hown1
       go_wp2_with (first | (at_builtin; refine wpList_append_own _ rfl _ _ 123 rfl w.heap.size 3 i0 (.int .i64 0) 1 8 Tryz.underlying123 hi hz0 hz1 hz2 rfl (by decide) _ _ _ rfl (HO1.out.alloc _) ⟨wa.heap.size, 0, none⟩ 1 1 [.int .i64 x2] rfl rfl (cell_new _ _ _) (by simp [Value.oneCell']) (by unfold maxLen; omega) (by omega) (by have := HBA.out.size; simp; omega) ?_) | (go_at_call 152; ((with_reducible refine (HR1 _).mono ?_); rintro e wx ⟨rfl, rfl⟩)) | (go_at_call 152; ((with_reducible refine (HR2 _).mono ?_); rintro e wx ⟨rfl, rfl⟩)) | (go_at_call 187; refine HF.mono ?_; rintro e wx ⟨rfl, rfl⟩) | (go_at_call 188; refine (HS _ HBA.out).mono ?_; rintro e wx ⟨rfl, rfl⟩))
       intro v2 wb hown2 hgrow2 hnn
       clear hnn
       have HBB : Hid (Below w.heap.size w wb) := (HBA.out.alloc HBA.out.size _).grown hgrow2 (by have := HBA.out.size; simp; omega) (fun q hq => (HO1.out.lt q hq).1)
       have HO2 := Lib.hid hown2
       clear hgrow2 hown2
       go_wp2
       go_ret
       exact RetN.of_own (by rw [HV.out]; exact HO2.out) HBB.out)

end Go.Proofs.YtolmecnjolfjgaaGreatDoor
