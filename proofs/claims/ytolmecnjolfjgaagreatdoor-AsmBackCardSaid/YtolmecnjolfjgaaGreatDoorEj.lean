/- The program's Encode, where the instruction is right: its parts, joined. -/
import Derived.Test.YtolmecnjolfjgaaGreatDoorRows
import Derived.Test.YtolmecnjolfjgaaGreatDoorEw
import Derived.Test.YtolmecnjolfjgaaGreatDoorJn
import Derived.Test.YtolmecnjolfjgaaGreatDoorCwx
import Derived.Test.YtolmecnjolfjgaaGreatDoorEu
import Derived.WalkKit
import Derived.WalkLawsBesides
import Derived.Deep.QuietTactic
import Derived.BigQuiet
import Derived.WalkSmall
import Derived.WalkSpells
import Derived.Lib.Hide
import Derived.Below
import Derived.LoopTactic
import Derived.Outline
import Derived.Deep.Cut
import Derived.StillTailTactics
set_option maxRecDepth 100000
namespace Go.Proofs.YtolmecnjolfjgaaGreatDoor
open Go.RowKit

/-- Still: what came, and the world as it was. -/
def Stl (f : FuncId) (args : Array Value) (v : Value) : Prop := ∀ w : World, Calls Tryz.prog f args w fun e w' => e = .returned v ∧ w' = w
theorem Stl.of {f : FuncId} {args : Array Value} {v : Value} (h : ∀ w, Calls Tryz.prog f args w fun e w' => e = .returned v ∧ w = w') : Stl f args v := fun w => (h w).mono fun _ _ hh => ⟨hh.1, hh.2.symm⟩
theorem join11 {T : TypeId} {g : Nat} {w : World} (a0 a1 a2 a3 a4 a5 a6 a7 a8 a9 a10 : Int) (hb : ∀ x ∈ [a0, a1, a2, a3, a4, a5, a6, a7, a8, a9, a10], 0 ≤ x ∧ x < 4294967296)
    (h : Blk #[.int .u32 a0, .int .u32 a1, .int .u32 a2, .int .u32 a3, .int .u32 a4, .int .u32 a5, .int .u32 a6, .int .u32 a7, .int .u32 a8, .int .u32 a9, .int .u32 a10] T g w) :
    Calls Tryz.prog 109 #[.slice (some ⟨g, 0, none⟩) 11 11] w fun e w' => e = .returned (.int .u32 (joinV [a0, a1, a2, a3, a4, a5, a6, a7, a8, a9, a10])) ∧ w = w' :=
  join_c (some ⟨g, 0, none⟩) 11 [a0, a1, a2, a3, a4, a5, a6, a7, a8, a9, a10] w (by simp) (.inr ⟨g, 0, rfl, h.lt, fun i v hv => by rw [Nat.zero_add, h.cell]; simpa using hv⟩) hb
theorem parts_range {i : Ins} (h : Rgt i) : ∀ x ∈ partsV i, 0 ≤ x ∧ x < 4294967296 := by
  have hop := h.op
  have hr := h.rd
  have hr1 := h.rs1
  have hr2 := h.rs2
  have ht := tu_all ⟨i.op.toNat - 1, by omega⟩
  have hg := cm_rng ⟨i.op.toNat - 1, by omega⟩
  simp only [show ((i.op.toNat - 1 : Nat) : Int) + 1 = i.op by omega] at ht hg
  obtain ⟨t1, ⟨t2, t3⟩, _⟩ := ht
  obtain ⟨c0, c1, g0, g1, _⟩ := hg
  have b0 := b01_cases i.rl
  have b1 := b01_cases i.aq
  have hps : 0 ≤ i.pred ∧ i.pred < 16 ∧ 0 ≤ i.succ ∧ i.succ < 16 := by
    by_cases e : i.op = 50
    · have := h.fen e; omega
    · by_cases e' : i.op = 51
      · have := h.tso e'; omega
      · have := h.oth e e'; omega
  have hI : 0 ≤ immW i.op i.imm ∧ immW i.op i.imm < 4294967296 := by
    have h6 := h.sh6
    have h5 := h.sh5
    have hc := classes hop
    unfold immW
    by_cases e : 0 < shV i.op
    · rw [if_pos e]; omega
    · rw [if_neg e]
      by_cases e' : 0 < fmV i.op
      · rw [if_pos e']
        have := putK_range (fmV i.op) (i.imm % 18446744073709551616) 32
        rw [show (2 : Int) ^ 32 = 4294967296 by decide] at this
        exact this
      · rw [if_neg e']; omega
  rw [← t1] at g0 g1
  unfold partsV
  intro x hx
  simp only [List.mem_cons, List.not_mem_nil, or_false] at hx
  omega

set_option maxRecDepth 100000 in
set_option maxHeartbeats 4000000 in
theorem encode_yes (i : Ins) (hR : Rgt i) (w : World) (TH : ∀ g x, Jn w i g x → TabL x)
    (KR : ∀ g x, Jn w i g x → Calls Tryz.prog 61 #[insV i] x fun e w' => e = .returned (.bool true) ∧ Jn w i g w')
    (KI : ∀ g x, Jn w i g x → Calls Tryz.prog 108 #[.int .i64 i.op, .int .i64 i.imm] x fun e w' => e = .returned (.tuple #[.int .u32 (immW i.op i.imm), .bool true]) ∧ Jn w i g w')
    (KO : ∀ g x, Jn w i g x → Calls Tryz.prog 110 #[.int .i64 i.op] x fun e w' => e = .returned (.int .u32 (ocV i.op)) ∧ x = w') :
    Calls Tryz.prog 59 #[insV i] w fun e w' => e = .returned (.tuple #[.int .u32 (wordV i), .int .i64 0]) ∧ Below w.heap.size w w' := by
  have HJ0 : Jn w i w.heap.size (w.alloc (.cells (insCells i) 40)) := ⟨BW.new (Below.refl _ _) _, Blk.new _ _ _, Nat.le_refl _⟩
  have hw := join_word hR
  have hpr := parts_range hR
  have hop := hR.op
  have hps : 0 ≤ i.pred ∧ i.pred < 16 ∧ 0 ≤ i.succ ∧ i.succ < 16 := by
    by_cases e : i.op = 50
    · have := hR.fen e; omega
    · by_cases e' : i.op = 51
      · have := hR.tso e'; omega
      · have := hR.oth e e'; omega
  have hr := hR.rd
  have hr1 := hR.rs1
  have hr2 := hR.rs2
  have ht := tu_all ⟨i.op.toNat - 1, by omega⟩
  have hg := cm_rng ⟨i.op.toNat - 1, by omega⟩
  simp only [show ((i.op.toNat - 1 : Nat) : Int) + 1 = i.op by omega] at ht hg
  obtain ⟨t1, ⟨t2, t3⟩, t4⟩ := ht
  obtain ⟨c0, c1, g0, g1, g2⟩ := hg
  clear t4 g2
  rw [← t1] at g0 g1
  have A1 : Stl 111 #[.int .i64 7, .int .i64 i.rd] (.int .u32 (i.rd * 128)) := Stl.of fun w => at_c 7 128 i.rd (by decide) (by omega) (by omega) w
  have A2 : Stl 111 #[.int .i64 12, .int .i64 (thV i.op)] (.int .u32 (thV i.op * 4096)) := Stl.of fun w => at_c 12 4096 _ (by decide) (by omega) (by omega) w
  have A3 : Stl 111 #[.int .i64 15, .int .i64 i.rs1] (.int .u32 (i.rs1 * 32768)) := Stl.of fun w => at_c 15 32768 _ (by decide) (by omega) (by omega) w
  have A4 : Stl 111 #[.int .i64 20, .int .i64 i.rs2] (.int .u32 (i.rs2 * 1048576)) := Stl.of fun w => at_c 20 1048576 _ (by decide) (by omega) (by omega) w
  have A5 : Stl 111 #[.int .i64 20, .int .i64 (upV i.op)] (.int .u32 (upV i.op * 1048576)) := Stl.of fun w => at_c 20 1048576 _ (by decide) (by omega) (by omega) w
  have A6 : Stl 111 #[.int .i64 20, .int .i64 i.succ] (.int .u32 (i.succ * 1048576)) := Stl.of fun w => at_c 20 1048576 _ (by decide) (by omega) (by omega) w
  have A7 : Stl 111 #[.int .i64 24, .int .i64 i.pred] (.int .u32 (i.pred * 16777216)) := Stl.of fun w => at_c 24 16777216 _ (by decide) (by omega) (by omega) w
  have A8 : Stl 114 #[.int .i64 25, .bool i.rl] (.int .u32 (b01 i.rl * 33554432)) := Stl.of fun w => flag_c 25 33554432 _ (by decide) w
  have A9 : Stl 114 #[.int .i64 26, .bool i.aq] (.int .u32 (b01 i.aq * 67108864)) := Stl.of fun w => flag_c 26 67108864 _ (by decide) w
  have KT : ∀ g x, Jn w i g x → Calls Tryz.prog 112 #[.int .i64 i.op] x fun e w' => e = .returned (.int .i64 (thV i.op)) ∧ w' = x := fun g x h => (third7_c i.op hop x (TH g x h)).mono fun _ _ hh => ⟨hh.1, hh.2.symm⟩
  have KU : Stl 113 #[.int .i64 i.op] (.int .i64 (upV i.op)) := Stl.of fun w => upper7_c i.op hop w
  clear TH hr hr1 hr2 hps hop t1 t2 t3 c0 c1 g0 g1 hR
  have HW : Hid (joinV (partsV i) = wordV i) := hw
  have HPR := Lib.hid hpr
  unfold partsV at HW HPR
  clear hw hpr
  obtain ⟨op, rd, rs1, rs2, imm, aq, rl, pred, succ⟩ := i
  unfold insV insCells at *
  simp only at HJ0 KR KI KO KT KU A1 A2 A3 A4 A5 A6 A7 A8 A9 HW HPR ⊢
  generalize wordV _ = W at *
  generalize thV _ = th at *
  generalize upV _ = up at *
  generalize immW _ _ = iw at *
  generalize ocV _ = oc at *
  generalize b01 rl * 33554432 = zr at *
  generalize b01 aq * 67108864 = za at *
  generalize rd * 128 = zd at *
  generalize th * 4096 = zt at *
  generalize rs1 * 32768 = z1 at *
  generalize rs2 * 1048576 = z2 at *
  generalize up * 1048576 = zu at *
  generalize succ * 1048576 = zs at *
  generalize pred * 16777216 = zp at *
  go_enter Tryz.func59, Tryz.ntmps59
  go_upto_region 1 with (fail)
  generalize w.alloc (.cells _ 40) = w1 at *
  obtain ⟨g, hg⟩ : ∃ g, w.heap.size = g := ⟨_, rfl⟩
  have HJ : Jn w ⟨op, rd, rs1, rs2, imm, aq, rl, pred, succ⟩ g w1 := by rw [← hg]; exact HJ0
  rw [hg]
  have HGG := Lib.hid hg
  clear hg HJ0
  obtain ⟨q0, q1, q2, q3, q4, q5, q6, q7, q8⟩ := HJ.cells
  simp only at q0 q1 q2 q3 q4 q5 q6 q7 q8
  go_upto_region 4 with (first
    | (go_at_call 61; refine (KR g _ HJ).mono ?_; rintro e w2 ⟨rfl, HJ2⟩; clear q0 q1 q2 q3 q4 q5 q6 q7 q8 HJ; have HJ := HJ2; clear HJ2; obtain ⟨q0, q1, q2, q3, q4, q5, q6, q7, q8⟩ := HJ.cells; simp only at q0 q1 q2 q3 q4 q5 q6 q7 q8)
    | (go_at_call 108; refine (KI g _ HJ).mono ?_; rintro e w3 ⟨rfl, HJ2⟩; clear q0 q1 q2 q3 q4 q5 q6 q7 q8 HJ; have HJ := HJ2; clear HJ2; obtain ⟨q0, q1, q2, q3, q4, q5, q6, q7, q8⟩ := HJ.cells; simp only at q0 q1 q2 q3 q4 q5 q6 q7 q8))
  clear q0 q1 q2 q3 q4 q5 q6 q7 q8
  have HJ2 := HJ.drew
  clear HJ KR KI
  refine wp_region_still_tail 33 (by kernel_rfl) (by kernel_rfl) ?_
  change wpStill _ _ w3.drew (fun a' => wpList _ _ _ _ a' w3.drew) _ _
  generalize w3.drew = w4 at *
  obtain ⟨q0, q1, q2, q3, q4, q5, q6, q7, q8⟩ := HJ2.cells
  simp only at q0 q1 q2 q3 q4 q5 q6 q7 q8
  have KT4 := KT g w4 HJ2
  have A0 : Calls Tryz.prog 110 #[.int .i64 op] w4 fun e w' => e = .returned (.int .u32 oc) ∧ w' = w4 := (KO g w4 HJ2).mono fun _ _ hh => ⟨hh.1, hh.2.symm⟩
  have HBW := Lib.hid HJ2.1
  clear KT KO HJ2
  simp only [List.take_succ_cons, List.take_zero, List.drop_succ_cons, List.drop_zero]
  still_step
  still_step
  still_call A0
  still_step
  still_step
  still_call (A1 w4)
  still_step
  still_step
  still_call KT4
  still_call (A2 w4)
  still_step
  still_step
  still_call (A3 w4)
  still_step
  still_step
  still_call (A4 w4)
  still_step
  still_step
  still_call (KU w4)
  still_call (A5 w4)
  still_step
  still_step
  still_step
  still_call (A6 w4)
  still_step
  still_step
  still_call (A7 w4)
  still_step
  still_step
  still_call (A8 w4)
  still_step
  still_step
  still_call (A9 w4)
  refine wpStill_nil ?_
  clear A0 A1 A2 A3 A4 A5 A6 A7 A8 A9 q0 q1 q2 q3 q4 q5 q6 q7 q8 KT4 KU
  go_wp2_with (first
    | (go_at_call 109; refine (join11 _ _ _ _ _ _ _ _ _ _ _ HPR.out (Blk.new _ _ w4)).mono ?_; rintro e w5 ⟨rfl, rfl⟩))
  go_ret2
  rw [HW.out]
  exact ⟨rfl, BW.new HBW.out _⟩
end Go.Proofs.YtolmecnjolfjgaaGreatDoor
