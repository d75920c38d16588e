/- The document's Text, class by class: what is annotated. (Written by a program.) -/
import Derived.Test.YtolmecnjolfjgaaGreatDoorRows
import Derived.Test.YtolmecnjolfjgaaGreatDoorRdl
import Derived.WalkKit
import Derived.WalkLawsBesides
import Derived.Deep.QuietTactic
import Derived.BigQuiet
import Derived.WalkSmall
import Derived.WalkSpells
import Derived.Lib.Hide
import Derived.Below
import Derived.LoopTactic
import Derived.Outline
import Derived.Deep.RegionHeld3
import Derived.Deep.DeepCutAuto
set_option maxRecDepth 100000
namespace Go.Proofs.YtolmecnjolfjgaaGreatDoor
open Go.RowKit

set_option maxRecDepth 100000 in
set_option maxHeartbeats 20000000 in
theorem text_v_ff (i : Ins) (h : Rgt i) (haq : i.aq = false) (hrl : i.rl = false) (hk : srt i.op = 10) (w : World) : Calls Tryz.prog 36 #[insV i] w fun e w' => e = .returned (tx (textT i)) ∧ BW w w' := by
  have hs := srt_spec i.op
  have hop := h.op
  have ho : I64 i.op := ⟨by omega, by omega⟩
  have hrd := h.rd
  have hr1 := h.rs1
  have hr2 := h.rs2
  have hI := imm_I64 h
  have hA := h.at1
  have hF := h.fen
  obtain ⟨op, rd, rs1, rs2, imm, aq, rl, pred, succ⟩ := i
  simp only at hs hop ho hrd hr1 hr2 hI hA hF hk
  simp only at haq hrl
  subst haq
  subst hrl
  clear h
  have hT : textT ⟨op, rd, rs1, rs2, imm, false, false, pred, succ⟩ = nmO op ++ annT false false ++ ([32] ++ regT rd ++ [44, 32, 40] ++ regT rs1 ++ [41]) := by
    unfold textT tailT cmS
    simp only
    rw [if_neg (by omega), if_neg (by omega), if_neg (by omega), if_neg (by omega), if_neg (by omega), if_neg (by omega), if_neg (by omega), if_pos (by omega)]
    try simp only [List.append_assoc, List.cons_append, List.nil_append]
  have HJ0 : Jn w ⟨op, rd, rs1, rs2, imm, false, false, pred, succ⟩ w.heap.size (w.alloc (.cells (insCells ⟨op, rd, rs1, rs2, imm, false, false, pred, succ⟩) 40)) := ⟨BW.new (Below.refl _ _) _, Blk.new _ _ _, Nat.le_refl _⟩
  have KS := fun g w1 (h : Jn w ⟨op, rd, rs1, rs2, imm, false, false, pred, succ⟩ g w1) => (rsort_any op ho.1 ho.2 w1).mono fun e w' (hh : _ ∧ _) => And.intro hh.1 (h.on hh.2)
  have KN := fun g w1 (h : Jn w ⟨op, rd, rs1, rs2, imm, false, false, pred, succ⟩ g w1) => (rname_any op ho.1 ho.2 w1).mono fun e w' (hh : _ ∧ _) => And.intro hh.1 (h.on hh.2)
  rw [hk] at KS
  have n3 : (op == 3) = false := by rw [beq_eq_false_iff_ne]; omega
  have n50 : (op == 50) = false := by rw [beq_eq_false_iff_ne]; omega
  have KD1 := fun g w1 (h : Jn w ⟨op, rd, rs1, rs2, imm, false, false, pred, succ⟩ g w1) => (rdigits_any rd (by unfold I64; omega) w1).mono fun e w' (hh : _ ∧ _) => And.intro hh.1 (And.intro (h.on hh.2) (h.on hh.2).cells)
  have KD2 := fun g w1 (h : Jn w ⟨op, rd, rs1, rs2, imm, false, false, pred, succ⟩ g w1) => (rdigits_any rs1 (by unfold I64; omega) w1).mono fun e w' (hh : _ ∧ _) => And.intro hh.1 (And.intro (h.on hh.2) (h.on hh.2).cells)
  have KD3 := fun g w1 (h : Jn w ⟨op, rd, rs1, rs2, imm, false, false, pred, succ⟩ g w1) => (rdigits_any rs2 (by unfold I64; omega) w1).mono fun e w' (hh : _ ∧ _) => And.intro hh.1 (And.intro (h.on hh.2) (h.on hh.2).cells)
  have KD4 := fun g w1 (h : Jn w ⟨op, rd, rs1, rs2, imm, false, false, pred, succ⟩ g w1) => (rdigits_any imm (hI) w1).mono fun e w' (hh : _ ∧ _) => And.intro hh.1 (And.intro (h.on hh.2) (h.on hh.2).cells)
  have l1 := regT_len hrd
  have l2 := regT_len hr1
  have l3 := regT_len hr2
  have l4 := digI_len hI
  have x1 : ∀ w2 : World, (Op.stringOp .add (⟨#[120]⟩ : ByteArray) (bs (digI rd))).run Tryz.prog w2 = .ok (.string (bs (regT rd))) w2 := fun w2 => cat [120] (digI rd) (by simp) (by unfold regT at l1; simp at l1; omega) w2
  have x2 : ∀ w2 : World, (Op.stringOp .add (⟨#[120]⟩ : ByteArray) (bs (digI rs1))).run Tryz.prog w2 = .ok (.string (bs (regT rs1))) w2 := fun w2 => cat [120] (digI rs1) (by simp) (by unfold regT at l2; simp at l2; omega) w2
  have x3 : ∀ w2 : World, (Op.stringOp .add (⟨#[120]⟩ : ByteArray) (bs (digI rs2))).run Tryz.prog w2 = .ok (.string (bs (regT rs2))) w2 := fun w2 => cat [120] (digI rs2) (by simp) (by unfold regT at l3; simp at l3; omega) w2
  have l0 := nmO_len op
  have HT := Lib.hid hT
  clear hT hA hF hs hop ho
  obtain ⟨S, hS⟩ : ∃ S, nmO op = S := ⟨_, rfl⟩
  rw [hS] at KN HT l0
  clear hS
  unfold tx at KN KD1 KD2 KD3 KD4
  generalize digI rd = D1 at KD1 x1
  obtain ⟨R1, hR1⟩ : ∃ R, regT rd = R := ⟨_, rfl⟩
  rw [hR1] at l1 x1
  generalize digI rs1 = D2 at KD2 x2
  obtain ⟨R2, hR2⟩ : ∃ R, regT rs1 = R := ⟨_, rfl⟩
  rw [hR2] at l2 x2
  generalize digI rs2 = D3 at KD3 x3
  obtain ⟨R3, hR3⟩ : ∃ R, regT rs2 = R := ⟨_, rfl⟩
  rw [hR3] at l3 x3
  obtain ⟨D4, hD4⟩ : ∃ R, digI imm = R := ⟨_, rfl⟩
  rw [hD4] at l4 KD4
  have HT : Hid (textT ⟨op, rd, rs1, rs2, imm, false, false, pred, succ⟩ = S ++ annT false false ++ ([32] ++ R1 ++ [44, 32, 40] ++ R2 ++ [41])) := by have := HT.out; rw [hR1, hR2] at this; exact this
  clear hR1 hR2 hR3 hD4
  obtain ⟨Z, hZ⟩ : ∃ Z, S ++ annT false false = Z := ⟨_, rfl⟩
  have lz : Z.length ≤ 20 := by rw [← hZ]; simp [annT] <;> omega
  rw [hZ] at HT
  have f0 : ∀ w2 : World, (Op.stringOp .add (bs Z) (⟨#[32]⟩ : ByteArray)).run Tryz.prog w2 = .ok (.string (bs (Z ++ [32]))) w2 := fun w2 => cat Z [32] (by first | omega | (simp; omega)) (by first | omega | simp) w2
  have f1 : ∀ w2 : World, (Op.stringOp .add (bs (Z ++ [32])) (bs R1)).run Tryz.prog w2 = .ok (.string (bs (Z ++ [32] ++ R1))) w2 := fun w2 => cat (Z ++ [32]) R1 (by first | omega | (simp; omega)) (by omega) w2
  have f2 : ∀ w2 : World, (Op.stringOp .add (bs (Z ++ [32] ++ R1)) (⟨#[44, 32, 40]⟩ : ByteArray)).run Tryz.prog w2 = .ok (.string (bs (Z ++ [32] ++ R1 ++ [44, 32, 40]))) w2 := fun w2 => cat (Z ++ [32] ++ R1) [44, 32, 40] (by first | omega | (simp; omega)) (by first | omega | simp) w2
  have f3 : ∀ w2 : World, (Op.stringOp .add (bs (Z ++ [32] ++ R1 ++ [44, 32, 40])) (bs R2)).run Tryz.prog w2 = .ok (.string (bs (Z ++ [32] ++ R1 ++ [44, 32, 40] ++ R2))) w2 := fun w2 => cat (Z ++ [32] ++ R1 ++ [44, 32, 40]) R2 (by first | omega | (simp; omega)) (by omega) w2
  have f4 : ∀ w2 : World, (Op.stringOp .add (bs (Z ++ [32] ++ R1 ++ [44, 32, 40] ++ R2)) (⟨#[41]⟩ : ByteArray)).run Tryz.prog w2 = .ok (.string (bs (Z ++ [32] ++ R1 ++ [44, 32, 40] ++ R2 ++ [41]))) w2 := fun w2 => cat (Z ++ [32] ++ R1 ++ [44, 32, 40] ++ R2) [41] (by first | omega | (simp; omega)) (by first | omega | simp) w2
  have hE : bs (textT ⟨op, rd, rs1, rs2, imm, false, false, pred, succ⟩) = bs (Z ++ [32] ++ R1 ++ [44, 32, 40] ++ R2 ++ [41]) := by rw [HT.out]; simp
  clear HT
  generalize bs (Z ++ [32] ++ R1 ++ [44, 32, 40] ++ R2 ++ [41]) = q4 at f4 hE
  generalize bs (Z ++ [32] ++ R1 ++ [44, 32, 40] ++ R2) = q3 at f3 f4
  generalize bs (Z ++ [32] ++ R1 ++ [44, 32, 40]) = q2 at f2 f3
  generalize bs (Z ++ [32] ++ R1) = q1 at f1 f2
  generalize bs (Z ++ [32]) = q0 at f0 f1
  have HE := Lib.hid hE
  clear hE
  have a1 : ∀ w2 : World, (Op.stringOp .add (bs S) (⟨#[46]⟩ : ByteArray)).run Tryz.prog w2 = .ok (.string (bs (S ++ [46]))) w2 := fun w2 => cat S [46] (by omega) (by simp) w2
  have a2 : ∀ w2 : World, (Op.stringOp .add (bs (S ++ [46])) (⟨#[97, 113]⟩ : ByteArray)).run Tryz.prog w2 = .ok (.string (bs (S ++ [46] ++ [97, 113]))) w2 := fun w2 => cat (S ++ [46]) [97, 113] (by simp; omega) (by simp) w2
  have a3 : ∀ w2 : World, (Op.stringOp .add (bs (S ++ [46])) (⟨#[114, 108]⟩ : ByteArray)).run Tryz.prog w2 = .ok (.string (bs (S ++ [46] ++ [114, 108]))) w2 := fun w2 => cat (S ++ [46]) [114, 108] (by simp; omega) (by simp) w2
  have a4 : ∀ w2 : World, (Op.stringOp .add (bs (S ++ [46] ++ [97, 113])) (⟨#[114, 108]⟩ : ByteArray)).run Tryz.prog w2 = .ok (.string (bs (S ++ [46] ++ [97, 113] ++ [114, 108]))) w2 := fun w2 => cat (S ++ [46] ++ [97, 113]) [114, 108] (by simp; omega) (by simp) w2
  have z1 : annT false false = [] := rfl
  have z2 : S ++ annT true false = S ++ [46] ++ [97, 113] := by simp [annT]
  have z3 : S ++ annT false true = S ++ [46] ++ [114, 108] := by simp [annT]
  have z4 : S ++ annT true true = S ++ [46] ++ [97, 113] ++ [114, 108] := by simp [annT]
  clear l0 l1 l2 l3 l4 lz
  first
    | (rw [z1, List.append_nil] at hZ)
    | (rw [z2] at hZ)
    | (rw [z3] at hZ)
    | (rw [z4] at hZ)
  clear z1 z2 z3 z4
  try rw [hZ] at a2
  try rw [hZ] at a3
  try rw [hZ] at a4
  try rw [hZ] at a1 KN
  clear hZ
  try generalize bs (S ++ [46] ++ [97, 113]) = qa at *
  try generalize bs (S ++ [46] ++ [114, 108]) = qb at *
  try generalize bs (S ++ [46]) = qc at *
  unfold insV
  unfold insCells at HJ0
  go_enter Tryz.func36, Tryz.ntmps36
  go_upto_region 1 with (fail)
  generalize w.alloc (.cells _ 40) = w1 at *
  obtain ⟨g, hg⟩ : ∃ g, w.heap.size = g := ⟨_, rfl⟩
  rw [hg] at HJ0 ⊢
  have HG := Lib.hid hg
  clear hg
  obtain ⟨c0, c1, c2, c3, c4, c5, c6, c7, c8⟩ := HJ0.cells
  go_upto_region 2 with (first
    | (go_at_call 46; refine (KS g _ HJ0).mono ?_; rintro e w2 ⟨rfl, HJ1⟩))
  clear c0 c1 c2 c3 c4 c5 c6 c7 c8 HJ0
  obtain ⟨c0, c1, c2, c3, c4, c5, c6, c7, c8⟩ := HJ1.cells
  go_upto_region 3 with (first
    | (go_at_call 58; refine (KN g _ HJ1).mono ?_; rintro e w3 ⟨rfl, HJ2⟩))
  clear c0 c1 c2 c3 c4 c5 c6 c7 c8 HJ1
  obtain ⟨c0, c1, c2, c3, c4, c5, c6, c7, c8⟩ := HJ2.cells
  go_upto_region 9 with fail
  clear c5 c6 KS KN
  clear a1 a2 a3 a4
  go_region_held3 (fun w' => Jn w ⟨op, rd, rs1, rs2, imm, false, false, pred, succ⟩ g w' ∧ w'.cell? ⟨g, 0, none⟩ = some (.int .i64 op) ∧ w'.cell? ⟨g, 1, none⟩ = some (.int .i64 rd) ∧ w'.cell? ⟨g, 2, none⟩ = some (.int .i64 rs1) ∧ w'.cell? ⟨g, 3, none⟩ = some (.int .i64 rs2) ∧ w'.cell? ⟨g, 4, none⟩ = some (.int .i64 imm) ∧ w'.cell? ⟨g, 7, none⟩ = some (.int .i64 pred) ∧ w'.cell? ⟨g, 8, none⟩ = some (.int .i64 succ))
    (first | (exact ⟨by assumption, by assumption, by assumption, by assumption, by assumption, by assumption, by assumption, by assumption⟩) | (exact ⟨Jn.drew (by assumption), by assumption, by assumption, by assumption, by assumption, by assumption, by assumption, by assumption⟩))
    (first
      | (go_at_call 37; (with_reducible refine (KD1 g _ ?_).mono ?_); (first | assumption | exact Jn.drew (by assumption)); rintro e w' ⟨rfl, hJ, d0, d1, d2, d3, d4, d5, d6, d7, d8⟩)
      | (go_at_call 37; (with_reducible refine (KD2 g _ ?_).mono ?_); (first | assumption | exact Jn.drew (by assumption)); rintro e w' ⟨rfl, hJ, d0, d1, d2, d3, d4, d5, d6, d7, d8⟩)
      | (go_at_call 37; (with_reducible refine (KD3 g _ ?_).mono ?_); (first | assumption | exact Jn.drew (by assumption)); rintro e w' ⟨rfl, hJ, d0, d1, d2, d3, d4, d5, d6, d7, d8⟩)
      | (go_at_call 37; (with_reducible refine (KD4 g _ ?_).mono ?_); (first | assumption | exact Jn.drew (by assumption)); rintro e w' ⟨rfl, hJ, d0, d1, d2, d3, d4, d5, d6, d7, d8⟩))
  all_goals go_wp2_with fail
  all_goals go_ret
  all_goals exact ⟨by rw [tx, HE.out]; rfl, Jn.bw' (by assumption)⟩

set_option maxRecDepth 100000 in
set_option maxHeartbeats 20000000 in
theorem text_v_ft (i : Ins) (h : Rgt i) (haq : i.aq = false) (hrl : i.rl = true) (hk : srt i.op = 10) (w : World) : Calls Tryz.prog 36 #[insV i] w fun e w' => e = .returned (tx (textT i)) ∧ BW w w' := by
  have hs := srt_spec i.op
  have hop := h.op
  have ho : I64 i.op := ⟨by omega, by omega⟩
  have hrd := h.rd
  have hr1 := h.rs1
  have hr2 := h.rs2
  have hI := imm_I64 h
  have hA := h.at1
  have hF := h.fen
  obtain ⟨op, rd, rs1, rs2, imm, aq, rl, pred, succ⟩ := i
  simp only at hs hop ho hrd hr1 hr2 hI hA hF hk
  simp only at haq hrl
  subst haq
  subst hrl
  clear h
  have hT : textT ⟨op, rd, rs1, rs2, imm, false, true, pred, succ⟩ = nmO op ++ annT false true ++ ([32] ++ regT rd ++ [44, 32, 40] ++ regT rs1 ++ [41]) := by
    unfold textT tailT cmS
    simp only
    rw [if_neg (by omega), if_neg (by omega), if_neg (by omega), if_neg (by omega), if_neg (by omega), if_neg (by omega), if_neg (by omega), if_pos (by omega)]
    try simp only [List.append_assoc, List.cons_append, List.nil_append]
  have HJ0 : Jn w ⟨op, rd, rs1, rs2, imm, false, true, pred, succ⟩ w.heap.size (w.alloc (.cells (insCells ⟨op, rd, rs1, rs2, imm, false, true, pred, succ⟩) 40)) := ⟨BW.new (Below.refl _ _) _, Blk.new _ _ _, Nat.le_refl _⟩
  have KS := fun g w1 (h : Jn w ⟨op, rd, rs1, rs2, imm, false, true, pred, succ⟩ g w1) => (rsort_any op ho.1 ho.2 w1).mono fun e w' (hh : _ ∧ _) => And.intro hh.1 (h.on hh.2)
  have KN := fun g w1 (h : Jn w ⟨op, rd, rs1, rs2, imm, false, true, pred, succ⟩ g w1) => (rname_any op ho.1 ho.2 w1).mono fun e w' (hh : _ ∧ _) => And.intro hh.1 (h.on hh.2)
  rw [hk] at KS
  have n3 : (op == 3) = false := by rw [beq_eq_false_iff_ne]; omega
  have n50 : (op == 50) = false := by rw [beq_eq_false_iff_ne]; omega
  have KD1 := fun g w1 (h : Jn w ⟨op, rd, rs1, rs2, imm, false, true, pred, succ⟩ g w1) => (rdigits_any rd (by unfold I64; omega) w1).mono fun e w' (hh : _ ∧ _) => And.intro hh.1 (And.intro (h.on hh.2) (h.on hh.2).cells)
  have KD2 := fun g w1 (h : Jn w ⟨op, rd, rs1, rs2, imm, false, true, pred, succ⟩ g w1) => (rdigits_any rs1 (by unfold I64; omega) w1).mono fun e w' (hh : _ ∧ _) => And.intro hh.1 (And.intro (h.on hh.2) (h.on hh.2).cells)
  have KD3 := fun g w1 (h : Jn w ⟨op, rd, rs1, rs2, imm, false, true, pred, succ⟩ g w1) => (rdigits_any rs2 (by unfold I64; omega) w1).mono fun e w' (hh : _ ∧ _) => And.intro hh.1 (And.intro (h.on hh.2) (h.on hh.2).cells)
  have KD4 := fun g w1 (h : Jn w ⟨op, rd, rs1, rs2, imm, false, true, pred, succ⟩ g w1) => (rdigits_any imm (hI) w1).mono fun e w' (hh : _ ∧ _) => And.intro hh.1 (And.intro (h.on hh.2) (h.on hh.2).cells)
  have l1 := regT_len hrd
  have l2 := regT_len hr1
  have l3 := regT_len hr2
  have l4 := digI_len hI
  have x1 : ∀ w2 : World, (Op.stringOp .add (⟨#[120]⟩ : ByteArray) (bs (digI rd))).run Tryz.prog w2 = .ok (.string (bs (regT rd))) w2 := fun w2 => cat [120] (digI rd) (by simp) (by unfold regT at l1; simp at l1; omega) w2
  have x2 : ∀ w2 : World, (Op.stringOp .add (⟨#[120]⟩ : ByteArray) (bs (digI rs1))).run Tryz.prog w2 = .ok (.string (bs (regT rs1))) w2 := fun w2 => cat [120] (digI rs1) (by simp) (by unfold regT at l2; simp at l2; omega) w2
  have x3 : ∀ w2 : World, (Op.stringOp .add (⟨#[120]⟩ : ByteArray) (bs (digI rs2))).run Tryz.prog w2 = .ok (.string (bs (regT rs2))) w2 := fun w2 => cat [120] (digI rs2) (by simp) (by unfold regT at l3; simp at l3; omega) w2
  have l0 := nmO_len op
  have HT := Lib.hid hT
  clear hT hA hF hs hop ho
  obtain ⟨S, hS⟩ : ∃ S, nmO op = S := ⟨_, rfl⟩
  rw [hS] at KN HT l0
  clear hS
  unfold tx at KN KD1 KD2 KD3 KD4
  generalize digI rd = D1 at KD1 x1
  obtain ⟨R1, hR1⟩ : ∃ R, regT rd = R := ⟨_, rfl⟩
  rw [hR1] at l1 x1
  generalize digI rs1 = D2 at KD2 x2
  obtain ⟨R2, hR2⟩ : ∃ R, regT rs1 = R := ⟨_, rfl⟩
  rw [hR2] at l2 x2
  generalize digI rs2 = D3 at KD3 x3
  obtain ⟨R3, hR3⟩ : ∃ R, regT rs2 = R := ⟨_, rfl⟩
  rw [hR3] at l3 x3
  obtain ⟨D4, hD4⟩ : ∃ R, digI imm = R := ⟨_, rfl⟩
  rw [hD4] at l4 KD4
  have HT : Hid (textT ⟨op, rd, rs1, rs2, imm, false, true, pred, succ⟩ = S ++ annT false true ++ ([32] ++ R1 ++ [44, 32, 40] ++ R2 ++ [41])) := by have := HT.out; rw [hR1, hR2] at this; exact this
  clear hR1 hR2 hR3 hD4
  obtain ⟨Z, hZ⟩ : ∃ Z, S ++ annT false true = Z := ⟨_, rfl⟩
  have lz : Z.length ≤ 20 := by rw [← hZ]; simp [annT] <;> omega
  rw [hZ] at HT
  have f0 : ∀ w2 : World, (Op.stringOp .add (bs Z) (⟨#[32]⟩ : ByteArray)).run Tryz.prog w2 = .ok (.string (bs (Z ++ [32]))) w2 := fun w2 => cat Z [32] (by first | omega | (simp; omega)) (by first | omega | simp) w2
  have f1 : ∀ w2 : World, (Op.stringOp .add (bs (Z ++ [32])) (bs R1)).run Tryz.prog w2 = .ok (.string (bs (Z ++ [32] ++ R1))) w2 := fun w2 => cat (Z ++ [32]) R1 (by first | omega | (simp; omega)) (by omega) w2
  have f2 : ∀ w2 : World, (Op.stringOp .add (bs (Z ++ [32] ++ R1)) (⟨#[44, 32, 40]⟩ : ByteArray)).run Tryz.prog w2 = .ok (.string (bs (Z ++ [32] ++ R1 ++ [44, 32, 40]))) w2 := fun w2 => cat (Z ++ [32] ++ R1) [44, 32, 40] (by first | omega | (simp; omega)) (by first | omega | simp) w2
  have f3 : ∀ w2 : World, (Op.stringOp .add (bs (Z ++ [32] ++ R1 ++ [44, 32, 40])) (bs R2)).run Tryz.prog w2 = .ok (.string (bs (Z ++ [32] ++ R1 ++ [44, 32, 40] ++ R2))) w2 := fun w2 => cat (Z ++ [32] ++ R1 ++ [44, 32, 40]) R2 (by first | omega | (simp; omega)) (by omega) w2
  have f4 : ∀ w2 : World, (Op.stringOp .add (bs (Z ++ [32] ++ R1 ++ [44, 32, 40] ++ R2)) (⟨#[41]⟩ : ByteArray)).run Tryz.prog w2 = .ok (.string (bs (Z ++ [32] ++ R1 ++ [44, 32, 40] ++ R2 ++ [41]))) w2 := fun w2 => cat (Z ++ [32] ++ R1 ++ [44, 32, 40] ++ R2) [41] (by first | omega | (simp; omega)) (by first | omega | simp) w2
  have hE : bs (textT ⟨op, rd, rs1, rs2, imm, false, true, pred, succ⟩) = bs (Z ++ [32] ++ R1 ++ [44, 32, 40] ++ R2 ++ [41]) := by rw [HT.out]; simp
  clear HT
  generalize bs (Z ++ [32] ++ R1 ++ [44, 32, 40] ++ R2 ++ [41]) = q4 at f4 hE
  generalize bs (Z ++ [32] ++ R1 ++ [44, 32, 40] ++ R2) = q3 at f3 f4
  generalize bs (Z ++ [32] ++ R1 ++ [44, 32, 40]) = q2 at f2 f3
  generalize bs (Z ++ [32] ++ R1) = q1 at f1 f2
  generalize bs (Z ++ [32]) = q0 at f0 f1
  have HE := Lib.hid hE
  clear hE
  have a1 : ∀ w2 : World, (Op.stringOp .add (bs S) (⟨#[46]⟩ : ByteArray)).run Tryz.prog w2 = .ok (.string (bs (S ++ [46]))) w2 := fun w2 => cat S [46] (by omega) (by simp) w2
  have a2 : ∀ w2 : World, (Op.stringOp .add (bs (S ++ [46])) (⟨#[97, 113]⟩ : ByteArray)).run Tryz.prog w2 = .ok (.string (bs (S ++ [46] ++ [97, 113]))) w2 := fun w2 => cat (S ++ [46]) [97, 113] (by simp; omega) (by simp) w2
  have a3 : ∀ w2 : World, (Op.stringOp .add (bs (S ++ [46])) (⟨#[114, 108]⟩ : ByteArray)).run Tryz.prog w2 = .ok (.string (bs (S ++ [46] ++ [114, 108]))) w2 := fun w2 => cat (S ++ [46]) [114, 108] (by simp; omega) (by simp) w2
  have a4 : ∀ w2 : World, (Op.stringOp .add (bs (S ++ [46] ++ [97, 113])) (⟨#[114, 108]⟩ : ByteArray)).run Tryz.prog w2 = .ok (.string (bs (S ++ [46] ++ [97, 113] ++ [114, 108]))) w2 := fun w2 => cat (S ++ [46] ++ [97, 113]) [114, 108] (by simp; omega) (by simp) w2
  have z1 : annT false false = [] := rfl
  have z2 : S ++ annT true false = S ++ [46] ++ [97, 113] := by simp [annT]
  have z3 : S ++ annT false true = S ++ [46] ++ [114, 108] := by simp [annT]
  have z4 : S ++ annT true true = S ++ [46] ++ [97, 113] ++ [114, 108] := by simp [annT]
  clear l0 l1 l2 l3 l4 lz
  first
    | (rw [z1, List.append_nil] at hZ)
    | (rw [z2] at hZ)
    | (rw [z3] at hZ)
    | (rw [z4] at hZ)
  clear z1 z2 z3 z4
  try rw [hZ] at a2
  try rw [hZ] at a3
  try rw [hZ] at a4
  try rw [hZ] at a1 KN
  clear hZ
  try generalize bs (S ++ [46] ++ [97, 113]) = qa at *
  try generalize bs (S ++ [46] ++ [114, 108]) = qb at *
  try generalize bs (S ++ [46]) = qc at *
  unfold insV
  unfold insCells at HJ0
  go_enter Tryz.func36, Tryz.ntmps36
  go_upto_region 1 with (fail)
  generalize w.alloc (.cells _ 40) = w1 at *
  obtain ⟨g, hg⟩ : ∃ g, w.heap.size = g := ⟨_, rfl⟩
  rw [hg] at HJ0 ⊢
  have HG := Lib.hid hg
  clear hg
  obtain ⟨c0, c1, c2, c3, c4, c5, c6, c7, c8⟩ := HJ0.cells
  go_upto_region 2 with (first
    | (go_at_call 46; refine (KS g _ HJ0).mono ?_; rintro e w2 ⟨rfl, HJ1⟩))
  clear c0 c1 c2 c3 c4 c5 c6 c7 c8 HJ0
  obtain ⟨c0, c1, c2, c3, c4, c5, c6, c7, c8⟩ := HJ1.cells
  go_upto_region 3 with (first
    | (go_at_call 58; refine (KN g _ HJ1).mono ?_; rintro e w3 ⟨rfl, HJ2⟩))
  clear c0 c1 c2 c3 c4 c5 c6 c7 c8 HJ1
  obtain ⟨c0, c1, c2, c3, c4, c5, c6, c7, c8⟩ := HJ2.cells
  go_upto_region 9 with fail
  clear c5 c6 KS KN
  clear a1 a2 a3 a4
  go_region_held3 (fun w' => Jn w ⟨op, rd, rs1, rs2, imm, false, true, pred, succ⟩ g w' ∧ w'.cell? ⟨g, 0, none⟩ = some (.int .i64 op) ∧ w'.cell? ⟨g, 1, none⟩ = some (.int .i64 rd) ∧ w'.cell? ⟨g, 2, none⟩ = some (.int .i64 rs1) ∧ w'.cell? ⟨g, 3, none⟩ = some (.int .i64 rs2) ∧ w'.cell? ⟨g, 4, none⟩ = some (.int .i64 imm) ∧ w'.cell? ⟨g, 7, none⟩ = some (.int .i64 pred) ∧ w'.cell? ⟨g, 8, none⟩ = some (.int .i64 succ))
    (first | (exact ⟨by assumption, by assumption, by assumption, by assumption, by assumption, by assumption, by assumption, by assumption⟩) | (exact ⟨Jn.drew (by assumption), by assumption, by assumption, by assumption, by assumption, by assumption, by assumption, by assumption⟩))
    (first
      | (go_at_call 37; (with_reducible refine (KD1 g _ ?_).mono ?_); (first | assumption | exact Jn.drew (by assumption)); rintro e w' ⟨rfl, hJ, d0, d1, d2, d3, d4, d5, d6, d7, d8⟩)
      | (go_at_call 37; (with_reducible refine (KD2 g _ ?_).mono ?_); (first | assumption | exact Jn.drew (by assumption)); rintro e w' ⟨rfl, hJ, d0, d1, d2, d3, d4, d5, d6, d7, d8⟩)
      | (go_at_call 37; (with_reducible refine (KD3 g _ ?_).mono ?_); (first | assumption | exact Jn.drew (by assumption)); rintro e w' ⟨rfl, hJ, d0, d1, d2, d3, d4, d5, d6, d7, d8⟩)
      | (go_at_call 37; (with_reducible refine (KD4 g _ ?_).mono ?_); (first | assumption | exact Jn.drew (by assumption)); rintro e w' ⟨rfl, hJ, d0, d1, d2, d3, d4, d5, d6, d7, d8⟩))
  all_goals go_wp2_with fail
  all_goals go_ret
  all_goals exact ⟨by rw [tx, HE.out]; rfl, Jn.bw' (by assumption)⟩

set_option maxRecDepth 100000 in
set_option maxHeartbeats 20000000 in
theorem text_v_tf (i : Ins) (h : Rgt i) (haq : i.aq = true) (hrl : i.rl = false) (hk : srt i.op = 10) (w : World) : Calls Tryz.prog 36 #[insV i] w fun e w' => e = .returned (tx (textT i)) ∧ BW w w' := by
  have hs := srt_spec i.op
  have hop := h.op
  have ho : I64 i.op := ⟨by omega, by omega⟩
  have hrd := h.rd
  have hr1 := h.rs1
  have hr2 := h.rs2
  have hI := imm_I64 h
  have hA := h.at1
  have hF := h.fen
  obtain ⟨op, rd, rs1, rs2, imm, aq, rl, pred, succ⟩ := i
  simp only at hs hop ho hrd hr1 hr2 hI hA hF hk
  simp only at haq hrl
  subst haq
  subst hrl
  clear h
  have hT : textT ⟨op, rd, rs1, rs2, imm, true, false, pred, succ⟩ = nmO op ++ annT true false ++ ([32] ++ regT rd ++ [44, 32, 40] ++ regT rs1 ++ [41]) := by
    unfold textT tailT cmS
    simp only
    rw [if_neg (by omega), if_neg (by omega), if_neg (by omega), if_neg (by omega), if_neg (by omega), if_neg (by omega), if_neg (by omega), if_pos (by omega)]
    try simp only [List.append_assoc, List.cons_append, List.nil_append]
  have HJ0 : Jn w ⟨op, rd, rs1, rs2, imm, true, false, pred, succ⟩ w.heap.size (w.alloc (.cells (insCells ⟨op, rd, rs1, rs2, imm, true, false, pred, succ⟩) 40)) := ⟨BW.new (Below.refl _ _) _, Blk.new _ _ _, Nat.le_refl _⟩
  have KS := fun g w1 (h : Jn w ⟨op, rd, rs1, rs2, imm, true, false, pred, succ⟩ g w1) => (rsort_any op ho.1 ho.2 w1).mono fun e w' (hh : _ ∧ _) => And.intro hh.1 (h.on hh.2)
  have KN := fun g w1 (h : Jn w ⟨op, rd, rs1, rs2, imm, true, false, pred, succ⟩ g w1) => (rname_any op ho.1 ho.2 w1).mono fun e w' (hh : _ ∧ _) => And.intro hh.1 (h.on hh.2)
  rw [hk] at KS
  have n3 : (op == 3) = false := by rw [beq_eq_false_iff_ne]; omega
  have n50 : (op == 50) = false := by rw [beq_eq_false_iff_ne]; omega
  have KD1 := fun g w1 (h : Jn w ⟨op, rd, rs1, rs2, imm, true, false, pred, succ⟩ g w1) => (rdigits_any rd (by unfold I64; omega) w1).mono fun e w' (hh : _ ∧ _) => And.intro hh.1 (And.intro (h.on hh.2) (h.on hh.2).cells)
  have KD2 := fun g w1 (h : Jn w ⟨op, rd, rs1, rs2, imm, true, false, pred, succ⟩ g w1) => (rdigits_any rs1 (by unfold I64; omega) w1).mono fun e w' (hh : _ ∧ _) => And.intro hh.1 (And.intro (h.on hh.2) (h.on hh.2).cells)
  have KD3 := fun g w1 (h : Jn w ⟨op, rd, rs1, rs2, imm, true, false, pred, succ⟩ g w1) => (rdigits_any rs2 (by unfold I64; omega) w1).mono fun e w' (hh : _ ∧ _) => And.intro hh.1 (And.intro (h.on hh.2) (h.on hh.2).cells)
  have KD4 := fun g w1 (h : Jn w ⟨op, rd, rs1, rs2, imm, true, false, pred, succ⟩ g w1) => (rdigits_any imm (hI) w1).mono fun e w' (hh : _ ∧ _) => And.intro hh.1 (And.intro (h.on hh.2) (h.on hh.2).cells)
  have l1 := regT_len hrd
  have l2 := regT_len hr1
  have l3 := regT_len hr2
  have l4 := digI_len hI
  have x1 : ∀ w2 : World, (Op.stringOp .add (⟨#[120]⟩ : ByteArray) (bs (digI rd))).run Tryz.prog w2 = .ok (.string (bs (regT rd))) w2 := fun w2 => cat [120] (digI rd) (by simp) (by unfold regT at l1; simp at l1; omega) w2
  have x2 : ∀ w2 : World, (Op.stringOp .add (⟨#[120]⟩ : ByteArray) (bs (digI rs1))).run Tryz.prog w2 = .ok (.string (bs (regT rs1))) w2 := fun w2 => cat [120] (digI rs1) (by simp) (by unfold regT at l2; simp at l2; omega) w2
  have x3 : ∀ w2 : World, (Op.stringOp .add (⟨#[120]⟩ : ByteArray) (bs (digI rs2))).run Tryz.prog w2 = .ok (.string (bs (regT rs2))) w2 := fun w2 => cat [120] (digI rs2) (by simp) (by unfold regT at l3; simp at l3; omega) w2
  have l0 := nmO_len op
  have HT := Lib.hid hT
  clear hT hA hF hs hop ho
  obtain ⟨S, hS⟩ : ∃ S, nmO op = S := ⟨_, rfl⟩
  rw [hS] at KN HT l0
  clear hS
  unfold tx at KN KD1 KD2 KD3 KD4
  generalize digI rd = D1 at KD1 x1
  obtain ⟨R1, hR1⟩ : ∃ R, regT rd = R := ⟨_, rfl⟩
  rw [hR1] at l1 x1
  generalize digI rs1 = D2 at KD2 x2
  obtain ⟨R2, hR2⟩ : ∃ R, regT rs1 = R := ⟨_, rfl⟩
  rw [hR2] at l2 x2
  generalize digI rs2 = D3 at KD3 x3
  obtain ⟨R3, hR3⟩ : ∃ R, regT rs2 = R := ⟨_, rfl⟩
  rw [hR3] at l3 x3
  obtain ⟨D4, hD4⟩ : ∃ R, digI imm = R := ⟨_, rfl⟩
  rw [hD4] at l4 KD4
  have HT : Hid (textT ⟨op, rd, rs1, rs2, imm, true, false, pred, succ⟩ = S ++ annT true false ++ ([32] ++ R1 ++ [44, 32, 40] ++ R2 ++ [41])) := by have := HT.out; rw [hR1, hR2] at this; exact this
  clear hR1 hR2 hR3 hD4
  obtain ⟨Z, hZ⟩ : ∃ Z, S ++ annT true false = Z := ⟨_, rfl⟩
  have lz : Z.length ≤ 20 := by rw [← hZ]; simp [annT] <;> omega
  rw [hZ] at HT
  have f0 : ∀ w2 : World, (Op.stringOp .add (bs Z) (⟨#[32]⟩ : ByteArray)).run Tryz.prog w2 = .ok (.string (bs (Z ++ [32]))) w2 := fun w2 => cat Z [32] (by first | omega | (simp; omega)) (by first | omega | simp) w2
  have f1 : ∀ w2 : World, (Op.stringOp .add (bs (Z ++ [32])) (bs R1)).run Tryz.prog w2 = .ok (.string (bs (Z ++ [32] ++ R1))) w2 := fun w2 => cat (Z ++ [32]) R1 (by first | omega | (simp; omega)) (by omega) w2
  have f2 : ∀ w2 : World, (Op.stringOp .add (bs (Z ++ [32] ++ R1)) (⟨#[44, 32, 40]⟩ : ByteArray)).run Tryz.prog w2 = .ok (.string (bs (Z ++ [32] ++ R1 ++ [44, 32, 40]))) w2 := fun w2 => cat (Z ++ [32] ++ R1) [44, 32, 40] (by first | omega | (simp; omega)) (by first | omega | simp) w2
  have f3 : ∀ w2 : World, (Op.stringOp .add (bs (Z ++ [32] ++ R1 ++ [44, 32, 40])) (bs R2)).run Tryz.prog w2 = .ok (.string (bs (Z ++ [32] ++ R1 ++ [44, 32, 40] ++ R2))) w2 := fun w2 => cat (Z ++ [32] ++ R1 ++ [44, 32, 40]) R2 (by first | omega | (simp; omega)) (by omega) w2
  have f4 : ∀ w2 : World, (Op.stringOp .add (bs (Z ++ [32] ++ R1 ++ [44, 32, 40] ++ R2)) (⟨#[41]⟩ : ByteArray)).run Tryz.prog w2 = .ok (.string (bs (Z ++ [32] ++ R1 ++ [44, 32, 40] ++ R2 ++ [41]))) w2 := fun w2 => cat (Z ++ [32] ++ R1 ++ [44, 32, 40] ++ R2) [41] (by first | omega | (simp; omega)) (by first | omega | simp) w2
  have hE : bs (textT ⟨op, rd, rs1, rs2, imm, true, false, pred, succ⟩) = bs (Z ++ [32] ++ R1 ++ [44, 32, 40] ++ R2 ++ [41]) := by rw [HT.out]; simp
  clear HT
  generalize bs (Z ++ [32] ++ R1 ++ [44, 32, 40] ++ R2 ++ [41]) = q4 at f4 hE
  generalize bs (Z ++ [32] ++ R1 ++ [44, 32, 40] ++ R2) = q3 at f3 f4
  generalize bs (Z ++ [32] ++ R1 ++ [44, 32, 40]) = q2 at f2 f3
  generalize bs (Z ++ [32] ++ R1) = q1 at f1 f2
  generalize bs (Z ++ [32]) = q0 at f0 f1
  have HE := Lib.hid hE
  clear hE
  have a1 : ∀ w2 : World, (Op.stringOp .add (bs S) (⟨#[46]⟩ : ByteArray)).run Tryz.prog w2 = .ok (.string (bs (S ++ [46]))) w2 := fun w2 => cat S [46] (by omega) (by simp) w2
  have a2 : ∀ w2 : World, (Op.stringOp .add (bs (S ++ [46])) (⟨#[97, 113]⟩ : ByteArray)).run Tryz.prog w2 = .ok (.string (bs (S ++ [46] ++ [97, 113]))) w2 := fun w2 => cat (S ++ [46]) [97, 113] (by simp; omega) (by simp) w2
  have a3 : ∀ w2 : World, (Op.stringOp .add (bs (S ++ [46])) (⟨#[114, 108]⟩ : ByteArray)).run Tryz.prog w2 = .ok (.string (bs (S ++ [46] ++ [114, 108]))) w2 := fun w2 => cat (S ++ [46]) [114, 108] (by simp; omega) (by simp) w2
  have a4 : ∀ w2 : World, (Op.stringOp .add (bs (S ++ [46] ++ [97, 113])) (⟨#[114, 108]⟩ : ByteArray)).run Tryz.prog w2 = .ok (.string (bs (S ++ [46] ++ [97, 113] ++ [114, 108]))) w2 := fun w2 => cat (S ++ [46] ++ [97, 113]) [114, 108] (by simp; omega) (by simp) w2
  have z1 : annT false false = [] := rfl
  have z2 : S ++ annT true false = S ++ [46] ++ [97, 113] := by simp [annT]
  have z3 : S ++ annT false true = S ++ [46] ++ [114, 108] := by simp [annT]
  have z4 : S ++ annT true true = S ++ [46] ++ [97, 113] ++ [114, 108] := by simp [annT]
  clear l0 l1 l2 l3 l4 lz
  first
    | (rw [z1, List.append_nil] at hZ)
    | (rw [z2] at hZ)
    | (rw [z3] at hZ)
    | (rw [z4] at hZ)
  clear z1 z2 z3 z4
  try rw [hZ] at a2
  try rw [hZ] at a3
  try rw [hZ] at a4
  try rw [hZ] at a1 KN
  clear hZ
  try generalize bs (S ++ [46] ++ [97, 113]) = qa at *
  try generalize bs (S ++ [46] ++ [114, 108]) = qb at *
  try generalize bs (S ++ [46]) = qc at *
  unfold insV
  unfold insCells at HJ0
  go_enter Tryz.func36, Tryz.ntmps36
  go_upto_region 1 with (fail)
  generalize w.alloc (.cells _ 40) = w1 at *
  obtain ⟨g, hg⟩ : ∃ g, w.heap.size = g := ⟨_, rfl⟩
  rw [hg] at HJ0 ⊢
  have HG := Lib.hid hg
  clear hg
  obtain ⟨c0, c1, c2, c3, c4, c5, c6, c7, c8⟩ := HJ0.cells
  go_upto_region 2 with (first
    | (go_at_call 46; refine (KS g _ HJ0).mono ?_; rintro e w2 ⟨rfl, HJ1⟩))
  clear c0 c1 c2 c3 c4 c5 c6 c7 c8 HJ0
  obtain ⟨c0, c1, c2, c3, c4, c5, c6, c7, c8⟩ := HJ1.cells
  go_upto_region 3 with (first
    | (go_at_call 58; refine (KN g _ HJ1).mono ?_; rintro e w3 ⟨rfl, HJ2⟩))
  clear c0 c1 c2 c3 c4 c5 c6 c7 c8 HJ1
  obtain ⟨c0, c1, c2, c3, c4, c5, c6, c7, c8⟩ := HJ2.cells
  go_upto_region 9 with fail
  clear c5 c6 KS KN
  clear a1 a2 a3 a4
  go_region_held3 (fun w' => Jn w ⟨op, rd, rs1, rs2, imm, true, false, pred, succ⟩ g w' ∧ w'.cell? ⟨g, 0, none⟩ = some (.int .i64 op) ∧ w'.cell? ⟨g, 1, none⟩ = some (.int .i64 rd) ∧ w'.cell? ⟨g, 2, none⟩ = some (.int .i64 rs1) ∧ w'.cell? ⟨g, 3, none⟩ = some (.int .i64 rs2) ∧ w'.cell? ⟨g, 4, none⟩ = some (.int .i64 imm) ∧ w'.cell? ⟨g, 7, none⟩ = some (.int .i64 pred) ∧ w'.cell? ⟨g, 8, none⟩ = some (.int .i64 succ))
    (first | (exact ⟨by assumption, by assumption, by assumption, by assumption, by assumption, by assumption, by assumption, by assumption⟩) | (exact ⟨Jn.drew (by assumption), by assumption, by assumption, by assumption, by assumption, by assumption, by assumption, by assumption⟩))
    (first
      | (go_at_call 37; (with_reducible refine (KD1 g _ ?_).mono ?_); (first | assumption | exact Jn.drew (by assumption)); rintro e w' ⟨rfl, hJ, d0, d1, d2, d3, d4, d5, d6, d7, d8⟩)
      | (go_at_call 37; (with_reducible refine (KD2 g _ ?_).mono ?_); (first | assumption | exact Jn.drew (by assumption)); rintro e w' ⟨rfl, hJ, d0, d1, d2, d3, d4, d5, d6, d7, d8⟩)
      | (go_at_call 37; (with_reducible refine (KD3 g _ ?_).mono ?_); (first | assumption | exact Jn.drew (by assumption)); rintro e w' ⟨rfl, hJ, d0, d1, d2, d3, d4, d5, d6, d7, d8⟩)
      | (go_at_call 37; (with_reducible refine (KD4 g _ ?_).mono ?_); (first | assumption | exact Jn.drew (by assumption)); rintro e w' ⟨rfl, hJ, d0, d1, d2, d3, d4, d5, d6, d7, d8⟩))
  all_goals go_wp2_with fail
  all_goals go_ret
  all_goals exact ⟨by rw [tx, HE.out]; rfl, Jn.bw' (by assumption)⟩

set_option maxRecDepth 100000 in
set_option maxHeartbeats 20000000 in
theorem text_v_tt (i : Ins) (h : Rgt i) (haq : i.aq = true) (hrl : i.rl = true) (hk : srt i.op = 10) (w : World) : Calls Tryz.prog 36 #[insV i] w fun e w' => e = .returned (tx (textT i)) ∧ BW w w' := by
  have hs := srt_spec i.op
  have hop := h.op
  have ho : I64 i.op := ⟨by omega, by omega⟩
  have hrd := h.rd
  have hr1 := h.rs1
  have hr2 := h.rs2
  have hI := imm_I64 h
  have hA := h.at1
  have hF := h.fen
  obtain ⟨op, rd, rs1, rs2, imm, aq, rl, pred, succ⟩ := i
  simp only at hs hop ho hrd hr1 hr2 hI hA hF hk
  simp only at haq hrl
  subst haq
  subst hrl
  clear h
  have hT : textT ⟨op, rd, rs1, rs2, imm, true, true, pred, succ⟩ = nmO op ++ annT true true ++ ([32] ++ regT rd ++ [44, 32, 40] ++ regT rs1 ++ [41]) := by
    unfold textT tailT cmS
    simp only
    rw [if_neg (by omega), if_neg (by omega), if_neg (by omega), if_neg (by omega), if_neg (by omega), if_neg (by omega), if_neg (by omega), if_pos (by omega)]
    try simp only [List.append_assoc, List.cons_append, List.nil_append]
  have HJ0 : Jn w ⟨op, rd, rs1, rs2, imm, true, true, pred, succ⟩ w.heap.size (w.alloc (.cells (insCells ⟨op, rd, rs1, rs2, imm, true, true, pred, succ⟩) 40)) := ⟨BW.new (Below.refl _ _) _, Blk.new _ _ _, Nat.le_refl _⟩
  have KS := fun g w1 (h : Jn w ⟨op, rd, rs1, rs2, imm, true, true, pred, succ⟩ g w1) => (rsort_any op ho.1 ho.2 w1).mono fun e w' (hh : _ ∧ _) => And.intro hh.1 (h.on hh.2)
  have KN := fun g w1 (h : Jn w ⟨op, rd, rs1, rs2, imm, true, true, pred, succ⟩ g w1) => (rname_any op ho.1 ho.2 w1).mono fun e w' (hh : _ ∧ _) => And.intro hh.1 (h.on hh.2)
  rw [hk] at KS
  have n3 : (op == 3) = false := by rw [beq_eq_false_iff_ne]; omega
  have n50 : (op == 50) = false := by rw [beq_eq_false_iff_ne]; omega
  have KD1 := fun g w1 (h : Jn w ⟨op, rd, rs1, rs2, imm, true, true, pred, succ⟩ g w1) => (rdigits_any rd (by unfold I64; omega) w1).mono fun e w' (hh : _ ∧ _) => And.intro hh.1 (And.intro (h.on hh.2) (h.on hh.2).cells)
  have KD2 := fun g w1 (h : Jn w ⟨op, rd, rs1, rs2, imm, true, true, pred, succ⟩ g w1) => (rdigits_any rs1 (by unfold I64; omega) w1).mono fun e w' (hh : _ ∧ _) => And.intro hh.1 (And.intro (h.on hh.2) (h.on hh.2).cells)
  have KD3 := fun g w1 (h : Jn w ⟨op, rd, rs1, rs2, imm, true, true, pred, succ⟩ g w1) => (rdigits_any rs2 (by unfold I64; omega) w1).mono fun e w' (hh : _ ∧ _) => And.intro hh.1 (And.intro (h.on hh.2) (h.on hh.2).cells)
  have KD4 := fun g w1 (h : Jn w ⟨op, rd, rs1, rs2, imm, true, true, pred, succ⟩ g w1) => (rdigits_any imm (hI) w1).mono fun e w' (hh : _ ∧ _) => And.intro hh.1 (And.intro (h.on hh.2) (h.on hh.2).cells)
  have l1 := regT_len hrd
  have l2 := regT_len hr1
  have l3 := regT_len hr2
  have l4 := digI_len hI
  have x1 : ∀ w2 : World, (Op.stringOp .add (⟨#[120]⟩ : ByteArray) (bs (digI rd))).run Tryz.prog w2 = .ok (.string (bs (regT rd))) w2 := fun w2 => cat [120] (digI rd) (by simp) (by unfold regT at l1; simp at l1; omega) w2
  have x2 : ∀ w2 : World, (Op.stringOp .add (⟨#[120]⟩ : ByteArray) (bs (digI rs1))).run Tryz.prog w2 = .ok (.string (bs (regT rs1))) w2 := fun w2 => cat [120] (digI rs1) (by simp) (by unfold regT at l2; simp at l2; omega) w2
  have x3 : ∀ w2 : World, (Op.stringOp .add (⟨#[120]⟩ : ByteArray) (bs (digI rs2))).run Tryz.prog w2 = .ok (.string (bs (regT rs2))) w2 := fun w2 => cat [120] (digI rs2) (by simp) (by unfold regT at l3; simp at l3; omega) w2
  have l0 := nmO_len op
  have HT := Lib.hid hT
  clear hT hA hF hs hop ho
  obtain ⟨S, hS⟩ : ∃ S, nmO op = S := ⟨_, rfl⟩
  rw [hS] at KN HT l0
  clear hS
  unfold tx at KN KD1 KD2 KD3 KD4
  generalize digI rd = D1 at KD1 x1
  obtain ⟨R1, hR1⟩ : ∃ R, regT rd = R := ⟨_, rfl⟩
  rw [hR1] at l1 x1
  generalize digI rs1 = D2 at KD2 x2
  obtain ⟨R2, hR2⟩ : ∃ R, regT rs1 = R := ⟨_, rfl⟩
  rw [hR2] at l2 x2
  generalize digI rs2 = D3 at KD3 x3
  obtain ⟨R3, hR3⟩ : ∃ R, regT rs2 = R := ⟨_, rfl⟩
  rw [hR3] at l3 x3
  obtain ⟨D4, hD4⟩ : ∃ R, digI imm = R := ⟨_, rfl⟩
  rw [hD4] at l4 KD4
  have HT : Hid (textT ⟨op, rd, rs1, rs2, imm, true, true, pred, succ⟩ = S ++ annT true true ++ ([32] ++ R1 ++ [44, 32, 40] ++ R2 ++ [41])) := by have := HT.out; rw [hR1, hR2] at this; exact this
  clear hR1 hR2 hR3 hD4
  obtain ⟨Z, hZ⟩ : ∃ Z, S ++ annT true true = Z := ⟨_, rfl⟩
  have lz : Z.length ≤ 20 := by rw [← hZ]; simp [annT] <;> omega
  rw [hZ] at HT
  have f0 : ∀ w2 : World, (Op.stringOp .add (bs Z) (⟨#[32]⟩ : ByteArray)).run Tryz.prog w2 = .ok (.string (bs (Z ++ [32]))) w2 := fun w2 => cat Z [32] (by first | omega | (simp; omega)) (by first | omega | simp) w2
  have f1 : ∀ w2 : World, (Op.stringOp .add (bs (Z ++ [32])) (bs R1)).run Tryz.prog w2 = .ok (.string (bs (Z ++ [32] ++ R1))) w2 := fun w2 => cat (Z ++ [32]) R1 (by first | omega | (simp; omega)) (by omega) w2
  have f2 : ∀ w2 : World, (Op.stringOp .add (bs (Z ++ [32] ++ R1)) (⟨#[44, 32, 40]⟩ : ByteArray)).run Tryz.prog w2 = .ok (.string (bs (Z ++ [32] ++ R1 ++ [44, 32, 40]))) w2 := fun w2 => cat (Z ++ [32] ++ R1) [44, 32, 40] (by first | omega | (simp; omega)) (by first | omega | simp) w2
  have f3 : ∀ w2 : World, (Op.stringOp .add (bs (Z ++ [32] ++ R1 ++ [44, 32, 40])) (bs R2)).run Tryz.prog w2 = .ok (.string (bs (Z ++ [32] ++ R1 ++ [44, 32, 40] ++ R2))) w2 := fun w2 => cat (Z ++ [32] ++ R1 ++ [44, 32, 40]) R2 (by first | omega | (simp; omega)) (by omega) w2
  have f4 : ∀ w2 : World, (Op.stringOp .add (bs (Z ++ [32] ++ R1 ++ [44, 32, 40] ++ R2)) (⟨#[41]⟩ : ByteArray)).run Tryz.prog w2 = .ok (.string (bs (Z ++ [32] ++ R1 ++ [44, 32, 40] ++ R2 ++ [41]))) w2 := fun w2 => cat (Z ++ [32] ++ R1 ++ [44, 32, 40] ++ R2) [41] (by first | omega | (simp; omega)) (by first | omega | simp) w2
  have hE : bs (textT ⟨op, rd, rs1, rs2, imm, true, true, pred, succ⟩) = bs (Z ++ [32] ++ R1 ++ [44, 32, 40] ++ R2 ++ [41]) := by rw [HT.out]; simp
  clear HT
  generalize bs (Z ++ [32] ++ R1 ++ [44, 32, 40] ++ R2 ++ [41]) = q4 at f4 hE
  generalize bs (Z ++ [32] ++ R1 ++ [44, 32, 40] ++ R2) = q3 at f3 f4
  generalize bs (Z ++ [32] ++ R1 ++ [44, 32, 40]) = q2 at f2 f3
  generalize bs (Z ++ [32] ++ R1) = q1 at f1 f2
  generalize bs (Z ++ [32]) = q0 at f0 f1
  have HE := Lib.hid hE
  clear hE
  have a1 : ∀ w2 : World, (Op.stringOp .add (bs S) (⟨#[46]⟩ : ByteArray)).run Tryz.prog w2 = .ok (.string (bs (S ++ [46]))) w2 := fun w2 => cat S [46] (by omega) (by simp) w2
  have a2 : ∀ w2 : World, (Op.stringOp .add (bs (S ++ [46])) (⟨#[97, 113]⟩ : ByteArray)).run Tryz.prog w2 = .ok (.string (bs (S ++ [46] ++ [97, 113]))) w2 := fun w2 => cat (S ++ [46]) [97, 113] (by simp; omega) (by simp) w2
  have a3 : ∀ w2 : World, (Op.stringOp .add (bs (S ++ [46])) (⟨#[114, 108]⟩ : ByteArray)).run Tryz.prog w2 = .ok (.string (bs (S ++ [46] ++ [114, 108]))) w2 := fun w2 => cat (S ++ [46]) [114, 108] (by simp; omega) (by simp) w2
  have a4 : ∀ w2 : World, (Op.stringOp .add (bs (S ++ [46] ++ [97, 113])) (⟨#[114, 108]⟩ : ByteArray)).run Tryz.prog w2 = .ok (.string (bs (S ++ [46] ++ [97, 113] ++ [114, 108]))) w2 := fun w2 => cat (S ++ [46] ++ [97, 113]) [114, 108] (by simp; omega) (by simp) w2
  have z1 : annT false false = [] := rfl
  have z2 : S ++ annT true false = S ++ [46] ++ [97, 113] := by simp [annT]
  have z3 : S ++ annT false true = S ++ [46] ++ [114, 108] := by simp [annT]
  have z4 : S ++ annT true true = S ++ [46] ++ [97, 113] ++ [114, 108] := by simp [annT]
  clear l0 l1 l2 l3 l4 lz
  first
    | (rw [z1, List.append_nil] at hZ)
    | (rw [z2] at hZ)
    | (rw [z3] at hZ)
    | (rw [z4] at hZ)
  clear z1 z2 z3 z4
  try rw [hZ] at a2
  try rw [hZ] at a3
  try rw [hZ] at a4
  try rw [hZ] at a1 KN
  clear hZ
  try generalize bs (S ++ [46] ++ [97, 113]) = qa at *
  try generalize bs (S ++ [46] ++ [114, 108]) = qb at *
  try generalize bs (S ++ [46]) = qc at *
  unfold insV
  unfold insCells at HJ0
  go_enter Tryz.func36, Tryz.ntmps36
  go_upto_region 1 with (fail)
  generalize w.alloc (.cells _ 40) = w1 at *
  obtain ⟨g, hg⟩ : ∃ g, w.heap.size = g := ⟨_, rfl⟩
  rw [hg] at HJ0 ⊢
  have HG := Lib.hid hg
  clear hg
  obtain ⟨c0, c1, c2, c3, c4, c5, c6, c7, c8⟩ := HJ0.cells
  go_upto_region 2 with (first
    | (go_at_call 46; refine (KS g _ HJ0).mono ?_; rintro e w2 ⟨rfl, HJ1⟩))
  clear c0 c1 c2 c3 c4 c5 c6 c7 c8 HJ0
  obtain ⟨c0, c1, c2, c3, c4, c5, c6, c7, c8⟩ := HJ1.cells
  go_upto_region 3 with (first
    | (go_at_call 58; refine (KN g _ HJ1).mono ?_; rintro e w3 ⟨rfl, HJ2⟩))
  clear c0 c1 c2 c3 c4 c5 c6 c7 c8 HJ1
  obtain ⟨c0, c1, c2, c3, c4, c5, c6, c7, c8⟩ := HJ2.cells
  go_upto_region 9 with fail
  clear c5 c6 KS KN
  clear a1 a2 a3 a4
  go_region_held3 (fun w' => Jn w ⟨op, rd, rs1, rs2, imm, true, true, pred, succ⟩ g w' ∧ w'.cell? ⟨g, 0, none⟩ = some (.int .i64 op) ∧ w'.cell? ⟨g, 1, none⟩ = some (.int .i64 rd) ∧ w'.cell? ⟨g, 2, none⟩ = some (.int .i64 rs1) ∧ w'.cell? ⟨g, 3, none⟩ = some (.int .i64 rs2) ∧ w'.cell? ⟨g, 4, none⟩ = some (.int .i64 imm) ∧ w'.cell? ⟨g, 7, none⟩ = some (.int .i64 pred) ∧ w'.cell? ⟨g, 8, none⟩ = some (.int .i64 succ))
    (first | (exact ⟨by assumption, by assumption, by assumption, by assumption, by assumption, by assumption, by assumption, by assumption⟩) | (exact ⟨Jn.drew (by assumption), by assumption, by assumption, by assumption, by assumption, by assumption, by assumption, by assumption⟩))
    (first
      | (go_at_call 37; (with_reducible refine (KD1 g _ ?_).mono ?_); (first | assumption | exact Jn.drew (by assumption)); rintro e w' ⟨rfl, hJ, d0, d1, d2, d3, d4, d5, d6, d7, d8⟩)
      | (go_at_call 37; (with_reducible refine (KD2 g _ ?_).mono ?_); (first | assumption | exact Jn.drew (by assumption)); rintro e w' ⟨rfl, hJ, d0, d1, d2, d3, d4, d5, d6, d7, d8⟩)
      | (go_at_call 37; (with_reducible refine (KD3 g _ ?_).mono ?_); (first | assumption | exact Jn.drew (by assumption)); rintro e w' ⟨rfl, hJ, d0, d1, d2, d3, d4, d5, d6, d7, d8⟩)
      | (go_at_call 37; (with_reducible refine (KD4 g _ ?_).mono ?_); (first | assumption | exact Jn.drew (by assumption)); rintro e w' ⟨rfl, hJ, d0, d1, d2, d3, d4, d5, d6, d7, d8⟩))
  all_goals go_wp2_with fail
  all_goals go_ret
  all_goals exact ⟨by rw [tx, HE.out]; rfl, Jn.bw' (by assumption)⟩

theorem text_v (i : Ins) (h : Rgt i) (hk : srt i.op = 10) (w : World) : Calls Tryz.prog 36 #[insV i] w fun e w' => e = .returned (tx (textT i)) ∧ BW w w' := by
  cases ha : i.aq <;> cases hl : i.rl
  · exact text_v_ff i h ha hl hk w
  · exact text_v_ft i h ha hl hk w
  · exact text_v_tf i h ha hl hk w
  · exact text_v_tt i h ha hl hk w

set_option maxRecDepth 100000 in
set_option maxHeartbeats 20000000 in
theorem text_c_ff (i : Ins) (h : Rgt i) (haq : i.aq = false) (hrl : i.rl = false) (hk : srt i.op = 11) (w : World) : Calls Tryz.prog 36 #[insV i] w fun e w' => e = .returned (tx (textT i)) ∧ BW w w' := by
  have hs := srt_spec i.op
  have hop := h.op
  have ho : I64 i.op := ⟨by omega, by omega⟩
  have hrd := h.rd
  have hr1 := h.rs1
  have hr2 := h.rs2
  have hI := imm_I64 h
  have hA := h.at1
  have hF := h.fen
  obtain ⟨op, rd, rs1, rs2, imm, aq, rl, pred, succ⟩ := i
  simp only at hs hop ho hrd hr1 hr2 hI hA hF hk
  simp only at haq hrl
  subst haq
  subst hrl
  clear h
  have hT : textT ⟨op, rd, rs1, rs2, imm, false, false, pred, succ⟩ = nmO op ++ annT false false ++ ([32] ++ regT rd ++ [44, 32] ++ regT rs2 ++ [44, 32, 40] ++ regT rs1 ++ [41]) := by
    unfold textT tailT cmS
    simp only
    rw [if_neg (by omega), if_neg (by omega), if_neg (by omega), if_neg (by omega), if_neg (by omega), if_neg (by omega), if_neg (by omega), if_neg (by omega), if_pos (by omega)]
    try simp only [List.append_assoc, List.cons_append, List.nil_append]
  have HJ0 : Jn w ⟨op, rd, rs1, rs2, imm, false, false, pred, succ⟩ w.heap.size (w.alloc (.cells (insCells ⟨op, rd, rs1, rs2, imm, false, false, pred, succ⟩) 40)) := ⟨BW.new (Below.refl _ _) _, Blk.new _ _ _, Nat.le_refl _⟩
  have KS := fun g w1 (h : Jn w ⟨op, rd, rs1, rs2, imm, false, false, pred, succ⟩ g w1) => (rsort_any op ho.1 ho.2 w1).mono fun e w' (hh : _ ∧ _) => And.intro hh.1 (h.on hh.2)
  have KN := fun g w1 (h : Jn w ⟨op, rd, rs1, rs2, imm, false, false, pred, succ⟩ g w1) => (rname_any op ho.1 ho.2 w1).mono fun e w' (hh : _ ∧ _) => And.intro hh.1 (h.on hh.2)
  rw [hk] at KS
  have n3 : (op == 3) = false := by rw [beq_eq_false_iff_ne]; omega
  have n50 : (op == 50) = false := by rw [beq_eq_false_iff_ne]; omega
  have KD1 := fun g w1 (h : Jn w ⟨op, rd, rs1, rs2, imm, false, false, pred, succ⟩ g w1) => (rdigits_any rd (by unfold I64; omega) w1).mono fun e w' (hh : _ ∧ _) => And.intro hh.1 (And.intro (h.on hh.2) (h.on hh.2).cells)
  have KD2 := fun g w1 (h : Jn w ⟨op, rd, rs1, rs2, imm, false, false, pred, succ⟩ g w1) => (rdigits_any rs1 (by unfold I64; omega) w1).mono fun e w' (hh : _ ∧ _) => And.intro hh.1 (And.intro (h.on hh.2) (h.on hh.2).cells)
  have KD3 := fun g w1 (h : Jn w ⟨op, rd, rs1, rs2, imm, false, false, pred, succ⟩ g w1) => (rdigits_any rs2 (by unfold I64; omega) w1).mono fun e w' (hh : _ ∧ _) => And.intro hh.1 (And.intro (h.on hh.2) (h.on hh.2).cells)
  have KD4 := fun g w1 (h : Jn w ⟨op, rd, rs1, rs2, imm, false, false, pred, succ⟩ g w1) => (rdigits_any imm (hI) w1).mono fun e w' (hh : _ ∧ _) => And.intro hh.1 (And.intro (h.on hh.2) (h.on hh.2).cells)
  have l1 := regT_len hrd
  have l2 := regT_len hr1
  have l3 := regT_len hr2
  have l4 := digI_len hI
  have x1 : ∀ w2 : World, (Op.stringOp .add (⟨#[120]⟩ : ByteArray) (bs (digI rd))).run Tryz.prog w2 = .ok (.string (bs (regT rd))) w2 := fun w2 => cat [120] (digI rd) (by simp) (by unfold regT at l1; simp at l1; omega) w2
  have x2 : ∀ w2 : World, (Op.stringOp .add (⟨#[120]⟩ : ByteArray) (bs (digI rs1))).run Tryz.prog w2 = .ok (.string (bs (regT rs1))) w2 := fun w2 => cat [120] (digI rs1) (by simp) (by unfold regT at l2; simp at l2; omega) w2
  have x3 : ∀ w2 : World, (Op.stringOp .add (⟨#[120]⟩ : ByteArray) (bs (digI rs2))).run Tryz.prog w2 = .ok (.string (bs (regT rs2))) w2 := fun w2 => cat [120] (digI rs2) (by simp) (by unfold regT at l3; simp at l3; omega) w2
  have l0 := nmO_len op
  have HT := Lib.hid hT
  clear hT hA hF hs hop ho
  obtain ⟨S, hS⟩ : ∃ S, nmO op = S := ⟨_, rfl⟩
  rw [hS] at KN HT l0
  clear hS
  unfold tx at KN KD1 KD2 KD3 KD4
  generalize digI rd = D1 at KD1 x1
  obtain ⟨R1, hR1⟩ : ∃ R, regT rd = R := ⟨_, rfl⟩
  rw [hR1] at l1 x1
  generalize digI rs1 = D2 at KD2 x2
  obtain ⟨R2, hR2⟩ : ∃ R, regT rs1 = R := ⟨_, rfl⟩
  rw [hR2] at l2 x2
  generalize digI rs2 = D3 at KD3 x3
  obtain ⟨R3, hR3⟩ : ∃ R, regT rs2 = R := ⟨_, rfl⟩
  rw [hR3] at l3 x3
  obtain ⟨D4, hD4⟩ : ∃ R, digI imm = R := ⟨_, rfl⟩
  rw [hD4] at l4 KD4
  have HT : Hid (textT ⟨op, rd, rs1, rs2, imm, false, false, pred, succ⟩ = S ++ annT false false ++ ([32] ++ R1 ++ [44, 32] ++ R3 ++ [44, 32, 40] ++ R2 ++ [41])) := by have := HT.out; rw [hR1, hR3, hR2] at this; exact this
  clear hR1 hR2 hR3 hD4
  obtain ⟨Z, hZ⟩ : ∃ Z, S ++ annT false false = Z := ⟨_, rfl⟩
  have lz : Z.length ≤ 20 := by rw [← hZ]; simp [annT] <;> omega
  rw [hZ] at HT
  have f0 : ∀ w2 : World, (Op.stringOp .add (bs Z) (⟨#[32]⟩ : ByteArray)).run Tryz.prog w2 = .ok (.string (bs (Z ++ [32]))) w2 := fun w2 => cat Z [32] (by first | omega | (simp; omega)) (by first | omega | simp) w2
  have f1 : ∀ w2 : World, (Op.stringOp .add (bs (Z ++ [32])) (bs R1)).run Tryz.prog w2 = .ok (.string (bs (Z ++ [32] ++ R1))) w2 := fun w2 => cat (Z ++ [32]) R1 (by first | omega | (simp; omega)) (by omega) w2
  have f2 : ∀ w2 : World, (Op.stringOp .add (bs (Z ++ [32] ++ R1)) (⟨#[44, 32]⟩ : ByteArray)).run Tryz.prog w2 = .ok (.string (bs (Z ++ [32] ++ R1 ++ [44, 32]))) w2 := fun w2 => cat (Z ++ [32] ++ R1) [44, 32] (by first | omega | (simp; omega)) (by first | omega | simp) w2
  have f3 : ∀ w2 : World, (Op.stringOp .add (bs (Z ++ [32] ++ R1 ++ [44, 32])) (bs R3)).run Tryz.prog w2 = .ok (.string (bs (Z ++ [32] ++ R1 ++ [44, 32] ++ R3))) w2 := fun w2 => cat (Z ++ [32] ++ R1 ++ [44, 32]) R3 (by first | omega | (simp; omega)) (by omega) w2
  have f4 : ∀ w2 : World, (Op.stringOp .add (bs (Z ++ [32] ++ R1 ++ [44, 32] ++ R3)) (⟨#[44, 32, 40]⟩ : ByteArray)).run Tryz.prog w2 = .ok (.string (bs (Z ++ [32] ++ R1 ++ [44, 32] ++ R3 ++ [44, 32, 40]))) w2 := fun w2 => cat (Z ++ [32] ++ R1 ++ [44, 32] ++ R3) [44, 32, 40] (by first | omega | (simp; omega)) (by first | omega | simp) w2
  have f5 : ∀ w2 : World, (Op.stringOp .add (bs (Z ++ [32] ++ R1 ++ [44, 32] ++ R3 ++ [44, 32, 40])) (bs R2)).run Tryz.prog w2 = .ok (.string (bs (Z ++ [32] ++ R1 ++ [44, 32] ++ R3 ++ [44, 32, 40] ++ R2))) w2 := fun w2 => cat (Z ++ [32] ++ R1 ++ [44, 32] ++ R3 ++ [44, 32, 40]) R2 (by first | omega | (simp; omega)) (by omega) w2
  have f6 : ∀ w2 : World, (Op.stringOp .add (bs (Z ++ [32] ++ R1 ++ [44, 32] ++ R3 ++ [44, 32, 40] ++ R2)) (⟨#[41]⟩ : ByteArray)).run Tryz.prog w2 = .ok (.string (bs (Z ++ [32] ++ R1 ++ [44, 32] ++ R3 ++ [44, 32, 40] ++ R2 ++ [41]))) w2 := fun w2 => cat (Z ++ [32] ++ R1 ++ [44, 32] ++ R3 ++ [44, 32, 40] ++ R2) [41] (by first | omega | (simp; omega)) (by first | omega | simp) w2
  have hE : bs (textT ⟨op, rd, rs1, rs2, imm, false, false, pred, succ⟩) = bs (Z ++ [32] ++ R1 ++ [44, 32] ++ R3 ++ [44, 32, 40] ++ R2 ++ [41]) := by rw [HT.out]; simp
  clear HT
  generalize bs (Z ++ [32] ++ R1 ++ [44, 32] ++ R3 ++ [44, 32, 40] ++ R2 ++ [41]) = q6 at f6 hE
  generalize bs (Z ++ [32] ++ R1 ++ [44, 32] ++ R3 ++ [44, 32, 40] ++ R2) = q5 at f5 f6
  generalize bs (Z ++ [32] ++ R1 ++ [44, 32] ++ R3 ++ [44, 32, 40]) = q4 at f4 f5
  generalize bs (Z ++ [32] ++ R1 ++ [44, 32] ++ R3) = q3 at f3 f4
  generalize bs (Z ++ [32] ++ R1 ++ [44, 32]) = q2 at f2 f3
  generalize bs (Z ++ [32] ++ R1) = q1 at f1 f2
  generalize bs (Z ++ [32]) = q0 at f0 f1
  have HE := Lib.hid hE
  clear hE
  have a1 : ∀ w2 : World, (Op.stringOp .add (bs S) (⟨#[46]⟩ : ByteArray)).run Tryz.prog w2 = .ok (.string (bs (S ++ [46]))) w2 := fun w2 => cat S [46] (by omega) (by simp) w2
  have a2 : ∀ w2 : World, (Op.stringOp .add (bs (S ++ [46])) (⟨#[97, 113]⟩ : ByteArray)).run Tryz.prog w2 = .ok (.string (bs (S ++ [46] ++ [97, 113]))) w2 := fun w2 => cat (S ++ [46]) [97, 113] (by simp; omega) (by simp) w2
  have a3 : ∀ w2 : World, (Op.stringOp .add (bs (S ++ [46])) (⟨#[114, 108]⟩ : ByteArray)).run Tryz.prog w2 = .ok (.string (bs (S ++ [46] ++ [114, 108]))) w2 := fun w2 => cat (S ++ [46]) [114, 108] (by simp; omega) (by simp) w2
  have a4 : ∀ w2 : World, (Op.stringOp .add (bs (S ++ [46] ++ [97, 113])) (⟨#[114, 108]⟩ : ByteArray)).run Tryz.prog w2 = .ok (.string (bs (S ++ [46] ++ [97, 113] ++ [114, 108]))) w2 := fun w2 => cat (S ++ [46] ++ [97, 113]) [114, 108] (by simp; omega) (by simp) w2
  have z1 : annT false false = [] := rfl
  have z2 : S ++ annT true false = S ++ [46] ++ [97, 113] := by simp [annT]
  have z3 : S ++ annT false true = S ++ [46] ++ [114, 108] := by simp [annT]
  have z4 : S ++ annT true true = S ++ [46] ++ [97, 113] ++ [114, 108] := by simp [annT]
  clear l0 l1 l2 l3 l4 lz
  first
    | (rw [z1, List.append_nil] at hZ)
    | (rw [z2] at hZ)
    | (rw [z3] at hZ)
    | (rw [z4] at hZ)
  clear z1 z2 z3 z4
  try rw [hZ] at a2
  try rw [hZ] at a3
  try rw [hZ] at a4
  try rw [hZ] at a1 KN
  clear hZ
  try generalize bs (S ++ [46] ++ [97, 113]) = qa at *
  try generalize bs (S ++ [46] ++ [114, 108]) = qb at *
  try generalize bs (S ++ [46]) = qc at *
  unfold insV
  unfold insCells at HJ0
  go_enter Tryz.func36, Tryz.ntmps36
  go_upto_region 1 with (fail)
  generalize w.alloc (.cells _ 40) = w1 at *
  obtain ⟨g, hg⟩ : ∃ g, w.heap.size = g := ⟨_, rfl⟩
  rw [hg] at HJ0 ⊢
  have HG := Lib.hid hg
  clear hg
  obtain ⟨c0, c1, c2, c3, c4, c5, c6, c7, c8⟩ := HJ0.cells
  go_upto_region 2 with (first
    | (go_at_call 46; refine (KS g _ HJ0).mono ?_; rintro e w2 ⟨rfl, HJ1⟩))
  clear c0 c1 c2 c3 c4 c5 c6 c7 c8 HJ0
  obtain ⟨c0, c1, c2, c3, c4, c5, c6, c7, c8⟩ := HJ1.cells
  go_upto_region 3 with (first
    | (go_at_call 58; refine (KN g _ HJ1).mono ?_; rintro e w3 ⟨rfl, HJ2⟩))
  clear c0 c1 c2 c3 c4 c5 c6 c7 c8 HJ1
  obtain ⟨c0, c1, c2, c3, c4, c5, c6, c7, c8⟩ := HJ2.cells
  go_upto_region 9 with fail
  clear c5 c6 KS KN
  clear a1 a2 a3 a4
  go_region_held3 (fun w' => Jn w ⟨op, rd, rs1, rs2, imm, false, false, pred, succ⟩ g w' ∧ w'.cell? ⟨g, 0, none⟩ = some (.int .i64 op) ∧ w'.cell? ⟨g, 1, none⟩ = some (.int .i64 rd) ∧ w'.cell? ⟨g, 2, none⟩ = some (.int .i64 rs1) ∧ w'.cell? ⟨g, 3, none⟩ = some (.int .i64 rs2) ∧ w'.cell? ⟨g, 4, none⟩ = some (.int .i64 imm) ∧ w'.cell? ⟨g, 7, none⟩ = some (.int .i64 pred) ∧ w'.cell? ⟨g, 8, none⟩ = some (.int .i64 succ))
    (first | (exact ⟨by assumption, by assumption, by assumption, by assumption, by assumption, by assumption, by assumption, by assumption⟩) | (exact ⟨Jn.drew (by assumption), by assumption, by assumption, by assumption, by assumption, by assumption, by assumption, by assumption⟩))
    (first
      | (go_at_call 37; (with_reducible refine (KD1 g _ ?_).mono ?_); (first | assumption | exact Jn.drew (by assumption)); rintro e w' ⟨rfl, hJ, d0, d1, d2, d3, d4, d5, d6, d7, d8⟩)
      | (go_at_call 37; (with_reducible refine (KD2 g _ ?_).mono ?_); (first | assumption | exact Jn.drew (by assumption)); rintro e w' ⟨rfl, hJ, d0, d1, d2, d3, d4, d5, d6, d7, d8⟩)
      | (go_at_call 37; (with_reducible refine (KD3 g _ ?_).mono ?_); (first | assumption | exact Jn.drew (by assumption)); rintro e w' ⟨rfl, hJ, d0, d1, d2, d3, d4, d5, d6, d7, d8⟩)
      | (go_at_call 37; (with_reducible refine (KD4 g _ ?_).mono ?_); (first | assumption | exact Jn.drew (by assumption)); rintro e w' ⟨rfl, hJ, d0, d1, d2, d3, d4, d5, d6, d7, d8⟩))
  all_goals go_wp2_with fail
  all_goals go_ret
  all_goals exact ⟨by rw [tx, HE.out]; rfl, Jn.bw' (by assumption)⟩

set_option maxRecDepth 100000 in
set_option maxHeartbeats 20000000 in
theorem text_c_ft (i : Ins) (h : Rgt i) (haq : i.aq = false) (hrl : i.rl = true) (hk : srt i.op = 11) (w : World) : Calls Tryz.prog 36 #[insV i] w fun e w' => e = .returned (tx (textT i)) ∧ BW w w' := by
  have hs := srt_spec i.op
  have hop := h.op
  have ho : I64 i.op := ⟨by omega, by omega⟩
  have hrd := h.rd
  have hr1 := h.rs1
  have hr2 := h.rs2
  have hI := imm_I64 h
  have hA := h.at1
  have hF := h.fen
  obtain ⟨op, rd, rs1, rs2, imm, aq, rl, pred, succ⟩ := i
  simp only at hs hop ho hrd hr1 hr2 hI hA hF hk
  simp only at haq hrl
  subst haq
  subst hrl
  clear h
  have hT : textT ⟨op, rd, rs1, rs2, imm, false, true, pred, succ⟩ = nmO op ++ annT false true ++ ([32] ++ regT rd ++ [44, 32] ++ regT rs2 ++ [44, 32, 40] ++ regT rs1 ++ [41]) := by
    unfold textT tailT cmS
    simp only
    rw [if_neg (by omega), if_neg (by omega), if_neg (by omega), if_neg (by omega), if_neg (by omega), if_neg (by omega), if_neg (by omega), if_neg (by omega), if_pos (by omega)]
    try simp only [List.append_assoc, List.cons_append, List.nil_append]
  have HJ0 : Jn w ⟨op, rd, rs1, rs2, imm, false, true, pred, succ⟩ w.heap.size (w.alloc (.cells (insCells ⟨op, rd, rs1, rs2, imm, false, true, pred, succ⟩) 40)) := ⟨BW.new (Below.refl _ _) _, Blk.new _ _ _, Nat.le_refl _⟩
  have KS := fun g w1 (h : Jn w ⟨op, rd, rs1, rs2, imm, false, true, pred, succ⟩ g w1) => (rsort_any op ho.1 ho.2 w1).mono fun e w' (hh : _ ∧ _) => And.intro hh.1 (h.on hh.2)
  have KN := fun g w1 (h : Jn w ⟨op, rd, rs1, rs2, imm, false, true, pred, succ⟩ g w1) => (rname_any op ho.1 ho.2 w1).mono fun e w' (hh : _ ∧ _) => And.intro hh.1 (h.on hh.2)
  rw [hk] at KS
  have n3 : (op == 3) = false := by rw [beq_eq_false_iff_ne]; omega
  have n50 : (op == 50) = false := by rw [beq_eq_false_iff_ne]; omega
  have KD1 := fun g w1 (h : Jn w ⟨op, rd, rs1, rs2, imm, false, true, pred, succ⟩ g w1) => (rdigits_any rd (by unfold I64; omega) w1).mono fun e w' (hh : _ ∧ _) => And.intro hh.1 (And.intro (h.on hh.2) (h.on hh.2).cells)
  have KD2 := fun g w1 (h : Jn w ⟨op, rd, rs1, rs2, imm, false, true, pred, succ⟩ g w1) => (rdigits_any rs1 (by unfold I64; omega) w1).mono fun e w' (hh : _ ∧ _) => And.intro hh.1 (And.intro (h.on hh.2) (h.on hh.2).cells)
  have KD3 := fun g w1 (h : Jn w ⟨op, rd, rs1, rs2, imm, false, true, pred, succ⟩ g w1) => (rdigits_any rs2 (by unfold I64; omega) w1).mono fun e w' (hh : _ ∧ _) => And.intro hh.1 (And.intro (h.on hh.2) (h.on hh.2).cells)
  have KD4 := fun g w1 (h : Jn w ⟨op, rd, rs1, rs2, imm, false, true, pred, succ⟩ g w1) => (rdigits_any imm (hI) w1).mono fun e w' (hh : _ ∧ _) => And.intro hh.1 (And.intro (h.on hh.2) (h.on hh.2).cells)
  have l1 := regT_len hrd
  have l2 := regT_len hr1
  have l3 := regT_len hr2
  have l4 := digI_len hI
  have x1 : ∀ w2 : World, (Op.stringOp .add (⟨#[120]⟩ : ByteArray) (bs (digI rd))).run Tryz.prog w2 = .ok (.string (bs (regT rd))) w2 := fun w2 => cat [120] (digI rd) (by simp) (by unfold regT at l1; simp at l1; omega) w2
  have x2 : ∀ w2 : World, (Op.stringOp .add (⟨#[120]⟩ : ByteArray) (bs (digI rs1))).run Tryz.prog w2 = .ok (.string (bs (regT rs1))) w2 := fun w2 => cat [120] (digI rs1) (by simp) (by unfold regT at l2; simp at l2; omega) w2
  have x3 : ∀ w2 : World, (Op.stringOp .add (⟨#[120]⟩ : ByteArray) (bs (digI rs2))).run Tryz.prog w2 = .ok (.string (bs (regT rs2))) w2 := fun w2 => cat [120] (digI rs2) (by simp) (by unfold regT at l3; simp at l3; omega) w2
  have l0 := nmO_len op
  have HT := Lib.hid hT
  clear hT hA hF hs hop ho
  obtain ⟨S, hS⟩ : ∃ S, nmO op = S := ⟨_, rfl⟩
  rw [hS] at KN HT l0
  clear hS
  unfold tx at KN KD1 KD2 KD3 KD4
  generalize digI rd = D1 at KD1 x1
  obtain ⟨R1, hR1⟩ : ∃ R, regT rd = R := ⟨_, rfl⟩
  rw [hR1] at l1 x1
  generalize digI rs1 = D2 at KD2 x2
  obtain ⟨R2, hR2⟩ : ∃ R, regT rs1 = R := ⟨_, rfl⟩
  rw [hR2] at l2 x2
  generalize digI rs2 = D3 at KD3 x3
  obtain ⟨R3, hR3⟩ : ∃ R, regT rs2 = R := ⟨_, rfl⟩
  rw [hR3] at l3 x3
  obtain ⟨D4, hD4⟩ : ∃ R, digI imm = R := ⟨_, rfl⟩
  rw [hD4] at l4 KD4
  have HT : Hid (textT ⟨op, rd, rs1, rs2, imm, false, true, pred, succ⟩ = S ++ annT false true ++ ([32] ++ R1 ++ [44, 32] ++ R3 ++ [44, 32, 40] ++ R2 ++ [41])) := by have := HT.out; rw [hR1, hR3, hR2] at this; exact this
  clear hR1 hR2 hR3 hD4
  obtain ⟨Z, hZ⟩ : ∃ Z, S ++ annT false true = Z := ⟨_, rfl⟩
  have lz : Z.length ≤ 20 := by rw [← hZ]; simp [annT] <;> omega
  rw [hZ] at HT
  have f0 : ∀ w2 : World, (Op.stringOp .add (bs Z) (⟨#[32]⟩ : ByteArray)).run Tryz.prog w2 = .ok (.string (bs (Z ++ [32]))) w2 := fun w2 => cat Z [32] (by first | omega | (simp; omega)) (by first | omega | simp) w2
  have f1 : ∀ w2 : World, (Op.stringOp .add (bs (Z ++ [32])) (bs R1)).run Tryz.prog w2 = .ok (.string (bs (Z ++ [32] ++ R1))) w2 := fun w2 => cat (Z ++ [32]) R1 (by first | omega | (simp; omega)) (by omega) w2
  have f2 : ∀ w2 : World, (Op.stringOp .add (bs (Z ++ [32] ++ R1)) (⟨#[44, 32]⟩ : ByteArray)).run Tryz.prog w2 = .ok (.string (bs (Z ++ [32] ++ R1 ++ [44, 32]))) w2 := fun w2 => cat (Z ++ [32] ++ R1) [44, 32] (by first | omega | (simp; omega)) (by first | omega | simp) w2
  have f3 : ∀ w2 : World, (Op.stringOp .add (bs (Z ++ [32] ++ R1 ++ [44, 32])) (bs R3)).run Tryz.prog w2 = .ok (.string (bs (Z ++ [32] ++ R1 ++ [44, 32] ++ R3))) w2 := fun w2 => cat (Z ++ [32] ++ R1 ++ [44, 32]) R3 (by first | omega | (simp; omega)) (by omega) w2
  have f4 : ∀ w2 : World, (Op.stringOp .add (bs (Z ++ [32] ++ R1 ++ [44, 32] ++ R3)) (⟨#[44, 32, 40]⟩ : ByteArray)).run Tryz.prog w2 = .ok (.string (bs (Z ++ [32] ++ R1 ++ [44, 32] ++ R3 ++ [44, 32, 40]))) w2 := fun w2 => cat (Z ++ [32] ++ R1 ++ [44, 32] ++ R3) [44, 32, 40] (by first | omega | (simp; omega)) (by first | omega | simp) w2
  have f5 : ∀ w2 : World, (Op.stringOp .add (bs (Z ++ [32] ++ R1 ++ [44, 32] ++ R3 ++ [44, 32, 40])) (bs R2)).run Tryz.prog w2 = .ok (.string (bs (Z ++ [32] ++ R1 ++ [44, 32] ++ R3 ++ [44, 32, 40] ++ R2))) w2 := fun w2 => cat (Z ++ [32] ++ R1 ++ [44, 32] ++ R3 ++ [44, 32, 40]) R2 (by first | omega | (simp; omega)) (by omega) w2
  have f6 : ∀ w2 : World, (Op.stringOp .add (bs (Z ++ [32] ++ R1 ++ [44, 32] ++ R3 ++ [44, 32, 40] ++ R2)) (⟨#[41]⟩ : ByteArray)).run Tryz.prog w2 = .ok (.string (bs (Z ++ [32] ++ R1 ++ [44, 32] ++ R3 ++ [44, 32, 40] ++ R2 ++ [41]))) w2 := fun w2 => cat (Z ++ [32] ++ R1 ++ [44, 32] ++ R3 ++ [44, 32, 40] ++ R2) [41] (by first | omega | (simp; omega)) (by first | omega | simp) w2
  have hE : bs (textT ⟨op, rd, rs1, rs2, imm, false, true, pred, succ⟩) = bs (Z ++ [32] ++ R1 ++ [44, 32] ++ R3 ++ [44, 32, 40] ++ R2 ++ [41]) := by rw [HT.out]; simp
  clear HT
  generalize bs (Z ++ [32] ++ R1 ++ [44, 32] ++ R3 ++ [44, 32, 40] ++ R2 ++ [41]) = q6 at f6 hE
  generalize bs (Z ++ [32] ++ R1 ++ [44, 32] ++ R3 ++ [44, 32, 40] ++ R2) = q5 at f5 f6
  generalize bs (Z ++ [32] ++ R1 ++ [44, 32] ++ R3 ++ [44, 32, 40]) = q4 at f4 f5
  generalize bs (Z ++ [32] ++ R1 ++ [44, 32] ++ R3) = q3 at f3 f4
  generalize bs (Z ++ [32] ++ R1 ++ [44, 32]) = q2 at f2 f3
  generalize bs (Z ++ [32] ++ R1) = q1 at f1 f2
  generalize bs (Z ++ [32]) = q0 at f0 f1
  have HE := Lib.hid hE
  clear hE
  have a1 : ∀ w2 : World, (Op.stringOp .add (bs S) (⟨#[46]⟩ : ByteArray)).run Tryz.prog w2 = .ok (.string (bs (S ++ [46]))) w2 := fun w2 => cat S [46] (by omega) (by simp) w2
  have a2 : ∀ w2 : World, (Op.stringOp .add (bs (S ++ [46])) (⟨#[97, 113]⟩ : ByteArray)).run Tryz.prog w2 = .ok (.string (bs (S ++ [46] ++ [97, 113]))) w2 := fun w2 => cat (S ++ [46]) [97, 113] (by simp; omega) (by simp) w2
  have a3 : ∀ w2 : World, (Op.stringOp .add (bs (S ++ [46])) (⟨#[114, 108]⟩ : ByteArray)).run Tryz.prog w2 = .ok (.string (bs (S ++ [46] ++ [114, 108]))) w2 := fun w2 => cat (S ++ [46]) [114, 108] (by simp; omega) (by simp) w2
  have a4 : ∀ w2 : World, (Op.stringOp .add (bs (S ++ [46] ++ [97, 113])) (⟨#[114, 108]⟩ : ByteArray)).run Tryz.prog w2 = .ok (.string (bs (S ++ [46] ++ [97, 113] ++ [114, 108]))) w2 := fun w2 => cat (S ++ [46] ++ [97, 113]) [114, 108] (by simp; omega) (by simp) w2
  have z1 : annT false false = [] := rfl
  have z2 : S ++ annT true false = S ++ [46] ++ [97, 113] := by simp [annT]
  have z3 : S ++ annT false true = S ++ [46] ++ [114, 108] := by simp [annT]
  have z4 : S ++ annT true true = S ++ [46] ++ [97, 113] ++ [114, 108] := by simp [annT]
  clear l0 l1 l2 l3 l4 lz
  first
    | (rw [z1, List.append_nil] at hZ)
    | (rw [z2] at hZ)
    | (rw [z3] at hZ)
    | (rw [z4] at hZ)
  clear z1 z2 z3 z4
  try rw [hZ] at a2
  try rw [hZ] at a3
  try rw [hZ] at a4
  try rw [hZ] at a1 KN
  clear hZ
  try generalize bs (S ++ [46] ++ [97, 113]) = qa at *
  try generalize bs (S ++ [46] ++ [114, 108]) = qb at *
  try generalize bs (S ++ [46]) = qc at *
  unfold insV
  unfold insCells at HJ0
  go_enter Tryz.func36, Tryz.ntmps36
  go_upto_region 1 with (fail)
  generalize w.alloc (.cells _ 40) = w1 at *
  obtain ⟨g, hg⟩ : ∃ g, w.heap.size = g := ⟨_, rfl⟩
  rw [hg] at HJ0 ⊢
  have HG := Lib.hid hg
  clear hg
  obtain ⟨c0, c1, c2, c3, c4, c5, c6, c7, c8⟩ := HJ0.cells
  go_upto_region 2 with (first
    | (go_at_call 46; refine (KS g _ HJ0).mono ?_; rintro e w2 ⟨rfl, HJ1⟩))
  clear c0 c1 c2 c3 c4 c5 c6 c7 c8 HJ0
  obtain ⟨c0, c1, c2, c3, c4, c5, c6, c7, c8⟩ := HJ1.cells
  go_upto_region 3 with (first
    | (go_at_call 58; refine (KN g _ HJ1).mono ?_; rintro e w3 ⟨rfl, HJ2⟩))
  clear c0 c1 c2 c3 c4 c5 c6 c7 c8 HJ1
  obtain ⟨c0, c1, c2, c3, c4, c5, c6, c7, c8⟩ := HJ2.cells
  go_upto_region 9 with fail
  clear c5 c6 KS KN
  clear a1 a2 a3 a4
  go_region_held3 (fun w' => Jn w ⟨op, rd, rs1, rs2, imm, false, true, pred, succ⟩ g w' ∧ w'.cell? ⟨g, 0, none⟩ = some (.int .i64 op) ∧ w'.cell? ⟨g, 1, none⟩ = some (.int .i64 rd) ∧ w'.cell? ⟨g, 2, none⟩ = some (.int .i64 rs1) ∧ w'.cell? ⟨g, 3, none⟩ = some (.int .i64 rs2) ∧ w'.cell? ⟨g, 4, none⟩ = some (.int .i64 imm) ∧ w'.cell? ⟨g, 7, none⟩ = some (.int .i64 pred) ∧ w'.cell? ⟨g, 8, none⟩ = some (.int .i64 succ))
    (first | (exact ⟨by assumption, by assumption, by assumption, by assumption, by assumption, by assumption, by assumption, by assumption⟩) | (exact ⟨Jn.drew (by assumption), by assumption, by assumption, by assumption, by assumption, by assumption, by assumption, by assumption⟩))
    (first
      | (go_at_call 37; (with_reducible refine (KD1 g _ ?_).mono ?_); (first | assumption | exact Jn.drew (by assumption)); rintro e w' ⟨rfl, hJ, d0, d1, d2, d3, d4, d5, d6, d7, d8⟩)
      | (go_at_call 37; (with_reducible refine (KD2 g _ ?_).mono ?_); (first | assumption | exact Jn.drew (by assumption)); rintro e w' ⟨rfl, hJ, d0, d1, d2, d3, d4, d5, d6, d7, d8⟩)
      | (go_at_call 37; (with_reducible refine (KD3 g _ ?_).mono ?_); (first | assumption | exact Jn.drew (by assumption)); rintro e w' ⟨rfl, hJ, d0, d1, d2, d3, d4, d5, d6, d7, d8⟩)
      | (go_at_call 37; (with_reducible refine (KD4 g _ ?_).mono ?_); (first | assumption | exact Jn.drew (by assumption)); rintro e w' ⟨rfl, hJ, d0, d1, d2, d3, d4, d5, d6, d7, d8⟩))
  all_goals go_wp2_with fail
  all_goals go_ret
  all_goals exact ⟨by rw [tx, HE.out]; rfl, Jn.bw' (by assumption)⟩

set_option maxRecDepth 100000 in
set_option maxHeartbeats 20000000 in
theorem text_c_tf (i : Ins) (h : Rgt i) (haq : i.aq = true) (hrl : i.rl = false) (hk : srt i.op = 11) (w : World) : Calls Tryz.prog 36 #[insV i] w fun e w' => e = .returned (tx (textT i)) ∧ BW w w' := by
  have hs := srt_spec i.op
  have hop := h.op
  have ho : I64 i.op := ⟨by omega, by omega⟩
  have hrd := h.rd
  have hr1 := h.rs1
  have hr2 := h.rs2
  have hI := imm_I64 h
  have hA := h.at1
  have hF := h.fen
  obtain ⟨op, rd, rs1, rs2, imm, aq, rl, pred, succ⟩ := i
  simp only at hs hop ho hrd hr1 hr2 hI hA hF hk
  simp only at haq hrl
  subst haq
  subst hrl
  clear h
  have hT : textT ⟨op, rd, rs1, rs2, imm, true, false, pred, succ⟩ = nmO op ++ annT true false ++ ([32] ++ regT rd ++ [44, 32] ++ regT rs2 ++ [44, 32, 40] ++ regT rs1 ++ [41]) := by
    unfold textT tailT cmS
    simp only
    rw [if_neg (by omega), if_neg (by omega), if_neg (by omega), if_neg (by omega), if_neg (by omega), if_neg (by omega), if_neg (by omega), if_neg (by omega), if_pos (by omega)]
    try simp only [List.append_assoc, List.cons_append, List.nil_append]
  have HJ0 : Jn w ⟨op, rd, rs1, rs2, imm, true, false, pred, succ⟩ w.heap.size (w.alloc (.cells (insCells ⟨op, rd, rs1, rs2, imm, true, false, pred, succ⟩) 40)) := ⟨BW.new (Below.refl _ _) _, Blk.new _ _ _, Nat.le_refl _⟩
  have KS := fun g w1 (h : Jn w ⟨op, rd, rs1, rs2, imm, true, false, pred, succ⟩ g w1) => (rsort_any op ho.1 ho.2 w1).mono fun e w' (hh : _ ∧ _) => And.intro hh.1 (h.on hh.2)
  have KN := fun g w1 (h : Jn w ⟨op, rd, rs1, rs2, imm, true, false, pred, succ⟩ g w1) => (rname_any op ho.1 ho.2 w1).mono fun e w' (hh : _ ∧ _) => And.intro hh.1 (h.on hh.2)
  rw [hk] at KS
  have n3 : (op == 3) = false := by rw [beq_eq_false_iff_ne]; omega
  have n50 : (op == 50) = false := by rw [beq_eq_false_iff_ne]; omega
  have KD1 := fun g w1 (h : Jn w ⟨op, rd, rs1, rs2, imm, true, false, pred, succ⟩ g w1) => (rdigits_any rd (by unfold I64; omega) w1).mono fun e w' (hh : _ ∧ _) => And.intro hh.1 (And.intro (h.on hh.2) (h.on hh.2).cells)
  have KD2 := fun g w1 (h : Jn w ⟨op, rd, rs1, rs2, imm, true, false, pred, succ⟩ g w1) => (rdigits_any rs1 (by unfold I64; omega) w1).mono fun e w' (hh : _ ∧ _) => And.intro hh.1 (And.intro (h.on hh.2) (h.on hh.2).cells)
  have KD3 := fun g w1 (h : Jn w ⟨op, rd, rs1, rs2, imm, true, false, pred, succ⟩ g w1) => (rdigits_any rs2 (by unfold I64; omega) w1).mono fun e w' (hh : _ ∧ _) => And.intro hh.1 (And.intro (h.on hh.2) (h.on hh.2).cells)
  have KD4 := fun g w1 (h : Jn w ⟨op, rd, rs1, rs2, imm, true, false, pred, succ⟩ g w1) => (rdigits_any imm (hI) w1).mono fun e w' (hh : _ ∧ _) => And.intro hh.1 (And.intro (h.on hh.2) (h.on hh.2).cells)
  have l1 := regT_len hrd
  have l2 := regT_len hr1
  have l3 := regT_len hr2
  have l4 := digI_len hI
  have x1 : ∀ w2 : World, (Op.stringOp .add (⟨#[120]⟩ : ByteArray) (bs (digI rd))).run Tryz.prog w2 = .ok (.string (bs (regT rd))) w2 := fun w2 => cat [120] (digI rd) (by simp) (by unfold regT at l1; simp at l1; omega) w2
  have x2 : ∀ w2 : World, (Op.stringOp .add (⟨#[120]⟩ : ByteArray) (bs (digI rs1))).run Tryz.prog w2 = .ok (.string (bs (regT rs1))) w2 := fun w2 => cat [120] (digI rs1) (by simp) (by unfold regT at l2; simp at l2; omega) w2
  have x3 : ∀ w2 : World, (Op.stringOp .add (⟨#[120]⟩ : ByteArray) (bs (digI rs2))).run Tryz.prog w2 = .ok (.string (bs (regT rs2))) w2 := fun w2 => cat [120] (digI rs2) (by simp) (by unfold regT at l3; simp at l3; omega) w2
  have l0 := nmO_len op
  have HT := Lib.hid hT
  clear hT hA hF hs hop ho
  obtain ⟨S, hS⟩ : ∃ S, nmO op = S := ⟨_, rfl⟩
  rw [hS] at KN HT l0
  clear hS
  unfold tx at KN KD1 KD2 KD3 KD4
  generalize digI rd = D1 at KD1 x1
  obtain ⟨R1, hR1⟩ : ∃ R, regT rd = R := ⟨_, rfl⟩
  rw [hR1] at l1 x1
  generalize digI rs1 = D2 at KD2 x2
  obtain ⟨R2, hR2⟩ : ∃ R, regT rs1 = R := ⟨_, rfl⟩
  rw [hR2] at l2 x2
  generalize digI rs2 = D3 at KD3 x3
  obtain ⟨R3, hR3⟩ : ∃ R, regT rs2 = R := ⟨_, rfl⟩
  rw [hR3] at l3 x3
  obtain ⟨D4, hD4⟩ : ∃ R, digI imm = R := ⟨_, rfl⟩
  rw [hD4] at l4 KD4
  have HT : Hid (textT ⟨op, rd, rs1, rs2, imm, true, false, pred, succ⟩ = S ++ annT true false ++ ([32] ++ R1 ++ [44, 32] ++ R3 ++ [44, 32, 40] ++ R2 ++ [41])) := by have := HT.out; rw [hR1, hR3, hR2] at this; exact this
  clear hR1 hR2 hR3 hD4
  obtain ⟨Z, hZ⟩ : ∃ Z, S ++ annT true false = Z := ⟨_, rfl⟩
  have lz : Z.length ≤ 20 := by rw [← hZ]; simp [annT] <;> omega
  rw [hZ] at HT
  have f0 : ∀ w2 : World, (Op.stringOp .add (bs Z) (⟨#[32]⟩ : ByteArray)).run Tryz.prog w2 = .ok (.string (bs (Z ++ [32]))) w2 := fun w2 => cat Z [32] (by first | omega | (simp; omega)) (by first | omega | simp) w2
  have f1 : ∀ w2 : World, (Op.stringOp .add (bs (Z ++ [32])) (bs R1)).run Tryz.prog w2 = .ok (.string (bs (Z ++ [32] ++ R1))) w2 := fun w2 => cat (Z ++ [32]) R1 (by first | omega | (simp; omega)) (by omega) w2
  have f2 : ∀ w2 : World, (Op.stringOp .add (bs (Z ++ [32] ++ R1)) (⟨#[44, 32]⟩ : ByteArray)).run Tryz.prog w2 = .ok (.string (bs (Z ++ [32] ++ R1 ++ [44, 32]))) w2 := fun w2 => cat (Z ++ [32] ++ R1) [44, 32] (by first | omega | (simp; omega)) (by first | omega | simp) w2
  have f3 : ∀ w2 : World, (Op.stringOp .add (bs (Z ++ [32] ++ R1 ++ [44, 32])) (bs R3)).run Tryz.prog w2 = .ok (.string (bs (Z ++ [32] ++ R1 ++ [44, 32] ++ R3))) w2 := fun w2 => cat (Z ++ [32] ++ R1 ++ [44, 32]) R3 (by first | omega | (simp; omega)) (by omega) w2
  have f4 : ∀ w2 : World, (Op.stringOp .add (bs (Z ++ [32] ++ R1 ++ [44, 32] ++ R3)) (⟨#[44, 32, 40]⟩ : ByteArray)).run Tryz.prog w2 = .ok (.string (bs (Z ++ [32] ++ R1 ++ [44, 32] ++ R3 ++ [44, 32, 40]))) w2 := fun w2 => cat (Z ++ [32] ++ R1 ++ [44, 32] ++ R3) [44, 32, 40] (by first | omega | (simp; omega)) (by first | omega | simp) w2
  have f5 : ∀ w2 : World, (Op.stringOp .add (bs (Z ++ [32] ++ R1 ++ [44, 32] ++ R3 ++ [44, 32, 40])) (bs R2)).run Tryz.prog w2 = .ok (.string (bs (Z ++ [32] ++ R1 ++ [44, 32] ++ R3 ++ [44, 32, 40] ++ R2))) w2 := fun w2 => cat (Z ++ [32] ++ R1 ++ [44, 32] ++ R3 ++ [44, 32, 40]) R2 (by first | omega | (simp; omega)) (by omega) w2
  have f6 : ∀ w2 : World, (Op.stringOp .add (bs (Z ++ [32] ++ R1 ++ [44, 32] ++ R3 ++ [44, 32, 40] ++ R2)) (⟨#[41]⟩ : ByteArray)).run Tryz.prog w2 = .ok (.string (bs (Z ++ [32] ++ R1 ++ [44, 32] ++ R3 ++ [44, 32, 40] ++ R2 ++ [41]))) w2 := fun w2 => cat (Z ++ [32] ++ R1 ++ [44, 32] ++ R3 ++ [44, 32, 40] ++ R2) [41] (by first | omega | (simp; omega)) (by first | omega | simp) w2
  have hE : bs (textT ⟨op, rd, rs1, rs2, imm, true, false, pred, succ⟩) = bs (Z ++ [32] ++ R1 ++ [44, 32] ++ R3 ++ [44, 32, 40] ++ R2 ++ [41]) := by rw [HT.out]; simp
  clear HT
  generalize bs (Z ++ [32] ++ R1 ++ [44, 32] ++ R3 ++ [44, 32, 40] ++ R2 ++ [41]) = q6 at f6 hE
  generalize bs (Z ++ [32] ++ R1 ++ [44, 32] ++ R3 ++ [44, 32, 40] ++ R2) = q5 at f5 f6
  generalize bs (Z ++ [32] ++ R1 ++ [44, 32] ++ R3 ++ [44, 32, 40]) = q4 at f4 f5
  generalize bs (Z ++ [32] ++ R1 ++ [44, 32] ++ R3) = q3 at f3 f4
  generalize bs (Z ++ [32] ++ R1 ++ [44, 32]) = q2 at f2 f3
  generalize bs (Z ++ [32] ++ R1) = q1 at f1 f2
  generalize bs (Z ++ [32]) = q0 at f0 f1
  have HE := Lib.hid hE
  clear hE
  have a1 : ∀ w2 : World, (Op.stringOp .add (bs S) (⟨#[46]⟩ : ByteArray)).run Tryz.prog w2 = .ok (.string (bs (S ++ [46]))) w2 := fun w2 => cat S [46] (by omega) (by simp) w2
  have a2 : ∀ w2 : World, (Op.stringOp .add (bs (S ++ [46])) (⟨#[97, 113]⟩ : ByteArray)).run Tryz.prog w2 = .ok (.string (bs (S ++ [46] ++ [97, 113]))) w2 := fun w2 => cat (S ++ [46]) [97, 113] (by simp; omega) (by simp) w2
  have a3 : ∀ w2 : World, (Op.stringOp .add (bs (S ++ [46])) (⟨#[114, 108]⟩ : ByteArray)).run Tryz.prog w2 = .ok (.string (bs (S ++ [46] ++ [114, 108]))) w2 := fun w2 => cat (S ++ [46]) [114, 108] (by simp; omega) (by simp) w2
  have a4 : ∀ w2 : World, (Op.stringOp .add (bs (S ++ [46] ++ [97, 113])) (⟨#[114, 108]⟩ : ByteArray)).run Tryz.prog w2 = .ok (.string (bs (S ++ [46] ++ [97, 113] ++ [114, 108]))) w2 := fun w2 => cat (S ++ [46] ++ [97, 113]) [114, 108] (by simp; omega) (by simp) w2
  have z1 : annT false false = [] := rfl
  have z2 : S ++ annT true false = S ++ [46] ++ [97, 113] := by simp [annT]
  have z3 : S ++ annT false true = S ++ [46] ++ [114, 108] := by simp [annT]
  have z4 : S ++ annT true true = S ++ [46] ++ [97, 113] ++ [114, 108] := by simp [annT]
  clear l0 l1 l2 l3 l4 lz
  first
    | (rw [z1, List.append_nil] at hZ)
    | (rw [z2] at hZ)
    | (rw [z3] at hZ)
    | (rw [z4] at hZ)
  clear z1 z2 z3 z4
  try rw [hZ] at a2
  try rw [hZ] at a3
  try rw [hZ] at a4
  try rw [hZ] at a1 KN
  clear hZ
  try generalize bs (S ++ [46] ++ [97, 113]) = qa at *
  try generalize bs (S ++ [46] ++ [114, 108]) = qb at *
  try generalize bs (S ++ [46]) = qc at *
  unfold insV
  unfold insCells at HJ0
  go_enter Tryz.func36, Tryz.ntmps36
  go_upto_region 1 with (fail)
  generalize w.alloc (.cells _ 40) = w1 at *
  obtain ⟨g, hg⟩ : ∃ g, w.heap.size = g := ⟨_, rfl⟩
  rw [hg] at HJ0 ⊢
  have HG := Lib.hid hg
  clear hg
  obtain ⟨c0, c1, c2, c3, c4, c5, c6, c7, c8⟩ := HJ0.cells
  go_upto_region 2 with (first
    | (go_at_call 46; refine (KS g _ HJ0).mono ?_; rintro e w2 ⟨rfl, HJ1⟩))
  clear c0 c1 c2 c3 c4 c5 c6 c7 c8 HJ0
  obtain ⟨c0, c1, c2, c3, c4, c5, c6, c7, c8⟩ := HJ1.cells
  go_upto_region 3 with (first
    | (go_at_call 58; refine (KN g _ HJ1).mono ?_; rintro e w3 ⟨rfl, HJ2⟩))
  clear c0 c1 c2 c3 c4 c5 c6 c7 c8 HJ1
  obtain ⟨c0, c1, c2, c3, c4, c5, c6, c7, c8⟩ := HJ2.cells
  go_upto_region 9 with fail
  clear c5 c6 KS KN
  clear a1 a2 a3 a4
  go_region_held3 (fun w' => Jn w ⟨op, rd, rs1, rs2, imm, true, false, pred, succ⟩ g w' ∧ w'.cell? ⟨g, 0, none⟩ = some (.int .i64 op) ∧ w'.cell? ⟨g, 1, none⟩ = some (.int .i64 rd) ∧ w'.cell? ⟨g, 2, none⟩ = some (.int .i64 rs1) ∧ w'.cell? ⟨g, 3, none⟩ = some (.int .i64 rs2) ∧ w'.cell? ⟨g, 4, none⟩ = some (.int .i64 imm) ∧ w'.cell? ⟨g, 7, none⟩ = some (.int .i64 pred) ∧ w'.cell? ⟨g, 8, none⟩ = some (.int .i64 succ))
    (first | (exact ⟨by assumption, by assumption, by assumption, by assumption, by assumption, by assumption, by assumption, by assumption⟩) | (exact ⟨Jn.drew (by assumption), by assumption, by assumption, by assumption, by assumption, by assumption, by assumption, by assumption⟩))
    (first
      | (go_at_call 37; (with_reducible refine (KD1 g _ ?_).mono ?_); (first | assumption | exact Jn.drew (by assumption)); rintro e w' ⟨rfl, hJ, d0, d1, d2, d3, d4, d5, d6, d7, d8⟩)
      | (go_at_call 37; (with_reducible refine (KD2 g _ ?_).mono ?_); (first | assumption | exact Jn.drew (by assumption)); rintro e w' ⟨rfl, hJ, d0, d1, d2, d3, d4, d5, d6, d7, d8⟩)
      | (go_at_call 37; (with_reducible refine (KD3 g _ ?_).mono ?_); (first | assumption | exact Jn.drew (by assumption)); rintro e w' ⟨rfl, hJ, d0, d1, d2, d3, d4, d5, d6, d7, d8⟩)
      | (go_at_call 37; (with_reducible refine (KD4 g _ ?_).mono ?_); (first | assumption | exact Jn.drew (by assumption)); rintro e w' ⟨rfl, hJ, d0, d1, d2, d3, d4, d5, d6, d7, d8⟩))
  all_goals go_wp2_with fail
  all_goals go_ret
  all_goals exact ⟨by rw [tx, HE.out]; rfl, Jn.bw' (by assumption)⟩

set_option maxRecDepth 100000 in
set_option maxHeartbeats 20000000 in
theorem text_c_tt (i : Ins) (h : Rgt i) (haq : i.aq = true) (hrl : i.rl = true) (hk : srt i.op = 11) (w : World) : Calls Tryz.prog 36 #[insV i] w fun e w' => e = .returned (tx (textT i)) ∧ BW w w' := by
  have hs := srt_spec i.op
  have hop := h.op
  have ho : I64 i.op := ⟨by omega, by omega⟩
  have hrd := h.rd
  have hr1 := h.rs1
  have hr2 := h.rs2
  have hI := imm_I64 h
  have hA := h.at1
  have hF := h.fen
  obtain ⟨op, rd, rs1, rs2, imm, aq, rl, pred, succ⟩ := i
  simp only at hs hop ho hrd hr1 hr2 hI hA hF hk
  simp only at haq hrl
  subst haq
  subst hrl
  clear h
  have hT : textT ⟨op, rd, rs1, rs2, imm, true, true, pred, succ⟩ = nmO op ++ annT true true ++ ([32] ++ regT rd ++ [44, 32] ++ regT rs2 ++ [44, 32, 40] ++ regT rs1 ++ [41]) := by
    unfold textT tailT cmS
    simp only
    rw [if_neg (by omega), if_neg (by omega), if_neg (by omega), if_neg (by omega), if_neg (by omega), if_neg (by omega), if_neg (by omega), if_neg (by omega), if_pos (by omega)]
    try simp only [List.append_assoc, List.cons_append, List.nil_append]
  have HJ0 : Jn w ⟨op, rd, rs1, rs2, imm, true, true, pred, succ⟩ w.heap.size (w.alloc (.cells (insCells ⟨op, rd, rs1, rs2, imm, true, true, pred, succ⟩) 40)) := ⟨BW.new (Below.refl _ _) _, Blk.new _ _ _, Nat.le_refl _⟩
  have KS := fun g w1 (h : Jn w ⟨op, rd, rs1, rs2, imm, true, true, pred, succ⟩ g w1) => (rsort_any op ho.1 ho.2 w1).mono fun e w' (hh : _ ∧ _) => And.intro hh.1 (h.on hh.2)
  have KN := fun g w1 (h : Jn w ⟨op, rd, rs1, rs2, imm, true, true, pred, succ⟩ g w1) => (rname_any op ho.1 ho.2 w1).mono fun e w' (hh : _ ∧ _) => And.intro hh.1 (h.on hh.2)
  rw [hk] at KS
  have n3 : (op == 3) = false := by rw [beq_eq_false_iff_ne]; omega
  have n50 : (op == 50) = false := by rw [beq_eq_false_iff_ne]; omega
  have KD1 := fun g w1 (h : Jn w ⟨op, rd, rs1, rs2, imm, true, true, pred, succ⟩ g w1) => (rdigits_any rd (by unfold I64; omega) w1).mono fun e w' (hh : _ ∧ _) => And.intro hh.1 (And.intro (h.on hh.2) (h.on hh.2).cells)
  have KD2 := fun g w1 (h : Jn w ⟨op, rd, rs1, rs2, imm, true, true, pred, succ⟩ g w1) => (rdigits_any rs1 (by unfold I64; omega) w1).mono fun e w' (hh : _ ∧ _) => And.intro hh.1 (And.intro (h.on hh.2) (h.on hh.2).cells)
  have KD3 := fun g w1 (h : Jn w ⟨op, rd, rs1, rs2, imm, true, true, pred, succ⟩ g w1) => (rdigits_any rs2 (by unfold I64; omega) w1).mono fun e w' (hh : _ ∧ _) => And.intro hh.1 (And.intro (h.on hh.2) (h.on hh.2).cells)
  have KD4 := fun g w1 (h : Jn w ⟨op, rd, rs1, rs2, imm, true, true, pred, succ⟩ g w1) => (rdigits_any imm (hI) w1).mono fun e w' (hh : _ ∧ _) => And.intro hh.1 (And.intro (h.on hh.2) (h.on hh.2).cells)
  have l1 := regT_len hrd
  have l2 := regT_len hr1
  have l3 := regT_len hr2
  have l4 := digI_len hI
  have x1 : ∀ w2 : World, (Op.stringOp .add (⟨#[120]⟩ : ByteArray) (bs (digI rd))).run Tryz.prog w2 = .ok (.string (bs (regT rd))) w2 := fun w2 => cat [120] (digI rd) (by simp) (by unfold regT at l1; simp at l1; omega) w2
  have x2 : ∀ w2 : World, (Op.stringOp .add (⟨#[120]⟩ : ByteArray) (bs (digI rs1))).run Tryz.prog w2 = .ok (.string (bs (regT rs1))) w2 := fun w2 => cat [120] (digI rs1) (by simp) (by unfold regT at l2; simp at l2; omega) w2
  have x3 : ∀ w2 : World, (Op.stringOp .add (⟨#[120]⟩ : ByteArray) (bs (digI rs2))).run Tryz.prog w2 = .ok (.string (bs (regT rs2))) w2 := fun w2 => cat [120] (digI rs2) (by simp) (by unfold regT at l3; simp at l3; omega) w2
  have l0 := nmO_len op
  have HT := Lib.hid hT
  clear hT hA hF hs hop ho
  obtain ⟨S, hS⟩ : ∃ S, nmO op = S := ⟨_, rfl⟩
  rw [hS] at KN HT l0
  clear hS
  unfold tx at KN KD1 KD2 KD3 KD4
  generalize digI rd = D1 at KD1 x1
  obtain ⟨R1, hR1⟩ : ∃ R, regT rd = R := ⟨_, rfl⟩
  rw [hR1] at l1 x1
  generalize digI rs1 = D2 at KD2 x2
  obtain ⟨R2, hR2⟩ : ∃ R, regT rs1 = R := ⟨_, rfl⟩
  rw [hR2] at l2 x2
  generalize digI rs2 = D3 at KD3 x3
  obtain ⟨R3, hR3⟩ : ∃ R, regT rs2 = R := ⟨_, rfl⟩
  rw [hR3] at l3 x3
  obtain ⟨D4, hD4⟩ : ∃ R, digI imm = R := ⟨_, rfl⟩
  rw [hD4] at l4 KD4
  have HT : Hid (textT ⟨op, rd, rs1, rs2, imm, true, true, pred, succ⟩ = S ++ annT true true ++ ([32] ++ R1 ++ [44, 32] ++ R3 ++ [44, 32, 40] ++ R2 ++ [41])) := by have := HT.out; rw [hR1, hR3, hR2] at this; exact this
  clear hR1 hR2 hR3 hD4
  obtain ⟨Z, hZ⟩ : ∃ Z, S ++ annT true true = Z := ⟨_, rfl⟩
  have lz : Z.length ≤ 20 := by rw [← hZ]; simp [annT] <;> omega
  rw [hZ] at HT
  have f0 : ∀ w2 : World, (Op.stringOp .add (bs Z) (⟨#[32]⟩ : ByteArray)).run Tryz.prog w2 = .ok (.string (bs (Z ++ [32]))) w2 := fun w2 => cat Z [32] (by first | omega | (simp; omega)) (by first | omega | simp) w2
  have f1 : ∀ w2 : World, (Op.stringOp .add (bs (Z ++ [32])) (bs R1)).run Tryz.prog w2 = .ok (.string (bs (Z ++ [32] ++ R1))) w2 := fun w2 => cat (Z ++ [32]) R1 (by first | omega | (simp; omega)) (by omega) w2
  have f2 : ∀ w2 : World, (Op.stringOp .add (bs (Z ++ [32] ++ R1)) (⟨#[44, 32]⟩ : ByteArray)).run Tryz.prog w2 = .ok (.string (bs (Z ++ [32] ++ R1 ++ [44, 32]))) w2 := fun w2 => cat (Z ++ [32] ++ R1) [44, 32] (by first | omega | (simp; omega)) (by first | omega | simp) w2
  have f3 : ∀ w2 : World, (Op.stringOp .add (bs (Z ++ [32] ++ R1 ++ [44, 32])) (bs R3)).run Tryz.prog w2 = .ok (.string (bs (Z ++ [32] ++ R1 ++ [44, 32] ++ R3))) w2 := fun w2 => cat (Z ++ [32] ++ R1 ++ [44, 32]) R3 (by first | omega | (simp; omega)) (by omega) w2
  have f4 : ∀ w2 : World, (Op.stringOp .add (bs (Z ++ [32] ++ R1 ++ [44, 32] ++ R3)) (⟨#[44, 32, 40]⟩ : ByteArray)).run Tryz.prog w2 = .ok (.string (bs (Z ++ [32] ++ R1 ++ [44, 32] ++ R3 ++ [44, 32, 40]))) w2 := fun w2 => cat (Z ++ [32] ++ R1 ++ [44, 32] ++ R3) [44, 32, 40] (by first | omega | (simp; omega)) (by first | omega | simp) w2
  have f5 : ∀ w2 : World, (Op.stringOp .add (bs (Z ++ [32] ++ R1 ++ [44, 32] ++ R3 ++ [44, 32, 40])) (bs R2)).run Tryz.prog w2 = .ok (.string (bs (Z ++ [32] ++ R1 ++ [44, 32] ++ R3 ++ [44, 32, 40] ++ R2))) w2 := fun w2 => cat (Z ++ [32] ++ R1 ++ [44, 32] ++ R3 ++ [44, 32, 40]) R2 (by first | omega | (simp; omega)) (by omega) w2
  have f6 : ∀ w2 : World, (Op.stringOp .add (bs (Z ++ [32] ++ R1 ++ [44, 32] ++ R3 ++ [44, 32, 40] ++ R2)) (⟨#[41]⟩ : ByteArray)).run Tryz.prog w2 = .ok (.string (bs (Z ++ [32] ++ R1 ++ [44, 32] ++ R3 ++ [44, 32, 40] ++ R2 ++ [41]))) w2 := fun w2 => cat (Z ++ [32] ++ R1 ++ [44, 32] ++ R3 ++ [44, 32, 40] ++ R2) [41] (by first | omega | (simp; omega)) (by first | omega | simp) w2
  have hE : bs (textT ⟨op, rd, rs1, rs2, imm, true, true, pred, succ⟩) = bs (Z ++ [32] ++ R1 ++ [44, 32] ++ R3 ++ [44, 32, 40] ++ R2 ++ [41]) := by rw [HT.out]; simp
  clear HT
  generalize bs (Z ++ [32] ++ R1 ++ [44, 32] ++ R3 ++ [44, 32, 40] ++ R2 ++ [41]) = q6 at f6 hE
  generalize bs (Z ++ [32] ++ R1 ++ [44, 32] ++ R3 ++ [44, 32, 40] ++ R2) = q5 at f5 f6
  generalize bs (Z ++ [32] ++ R1 ++ [44, 32] ++ R3 ++ [44, 32, 40]) = q4 at f4 f5
  generalize bs (Z ++ [32] ++ R1 ++ [44, 32] ++ R3) = q3 at f3 f4
  generalize bs (Z ++ [32] ++ R1 ++ [44, 32]) = q2 at f2 f3
  generalize bs (Z ++ [32] ++ R1) = q1 at f1 f2
  generalize bs (Z ++ [32]) = q0 at f0 f1
  have HE := Lib.hid hE
  clear hE
  have a1 : ∀ w2 : World, (Op.stringOp .add (bs S) (⟨#[46]⟩ : ByteArray)).run Tryz.prog w2 = .ok (.string (bs (S ++ [46]))) w2 := fun w2 => cat S [46] (by omega) (by simp) w2
  have a2 : ∀ w2 : World, (Op.stringOp .add (bs (S ++ [46])) (⟨#[97, 113]⟩ : ByteArray)).run Tryz.prog w2 = .ok (.string (bs (S ++ [46] ++ [97, 113]))) w2 := fun w2 => cat (S ++ [46]) [97, 113] (by simp; omega) (by simp) w2
  have a3 : ∀ w2 : World, (Op.stringOp .add (bs (S ++ [46])) (⟨#[114, 108]⟩ : ByteArray)).run Tryz.prog w2 = .ok (.string (bs (S ++ [46] ++ [114, 108]))) w2 := fun w2 => cat (S ++ [46]) [114, 108] (by simp; omega) (by simp) w2
  have a4 : ∀ w2 : World, (Op.stringOp .add (bs (S ++ [46] ++ [97, 113])) (⟨#[114, 108]⟩ : ByteArray)).run Tryz.prog w2 = .ok (.string (bs (S ++ [46] ++ [97, 113] ++ [114, 108]))) w2 := fun w2 => cat (S ++ [46] ++ [97, 113]) [114, 108] (by simp; omega) (by simp) w2
  have z1 : annT false false = [] := rfl
  have z2 : S ++ annT true false = S ++ [46] ++ [97, 113] := by simp [annT]
  have z3 : S ++ annT false true = S ++ [46] ++ [114, 108] := by simp [annT]
  have z4 : S ++ annT true true = S ++ [46] ++ [97, 113] ++ [114, 108] := by simp [annT]
  clear l0 l1 l2 l3 l4 lz
  first
    | (rw [z1, List.append_nil] at hZ)
    | (rw [z2] at hZ)
    | (rw [z3] at hZ)
    | (rw [z4] at hZ)
  clear z1 z2 z3 z4
  try rw [hZ] at a2
  try rw [hZ] at a3
  try rw [hZ] at a4
  try rw [hZ] at a1 KN
  clear hZ
  try generalize bs (S ++ [46] ++ [97, 113]) = qa at *
  try generalize bs (S ++ [46] ++ [114, 108]) = qb at *
  try generalize bs (S ++ [46]) = qc at *
  unfold insV
  unfold insCells at HJ0
  go_enter Tryz.func36, Tryz.ntmps36
  go_upto_region 1 with (fail)
  generalize w.alloc (.cells _ 40) = w1 at *
  obtain ⟨g, hg⟩ : ∃ g, w.heap.size = g := ⟨_, rfl⟩
  rw [hg] at HJ0 ⊢
  have HG := Lib.hid hg
  clear hg
  obtain ⟨c0, c1, c2, c3, c4, c5, c6, c7, c8⟩ := HJ0.cells
  go_upto_region 2 with (first
    | (go_at_call 46; refine (KS g _ HJ0).mono ?_; rintro e w2 ⟨rfl, HJ1⟩))
  clear c0 c1 c2 c3 c4 c5 c6 c7 c8 HJ0
  obtain ⟨c0, c1, c2, c3, c4, c5, c6, c7, c8⟩ := HJ1.cells
  go_upto_region 3 with (first
    | (go_at_call 58; refine (KN g _ HJ1).mono ?_; rintro e w3 ⟨rfl, HJ2⟩))
  clear c0 c1 c2 c3 c4 c5 c6 c7 c8 HJ1
  obtain ⟨c0, c1, c2, c3, c4, c5, c6, c7, c8⟩ := HJ2.cells
  go_upto_region 9 with fail
  clear c5 c6 KS KN
  clear a1 a2 a3 a4
  go_region_held3 (fun w' => Jn w ⟨op, rd, rs1, rs2, imm, true, true, pred, succ⟩ g w' ∧ w'.cell? ⟨g, 0, none⟩ = some (.int .i64 op) ∧ w'.cell? ⟨g, 1, none⟩ = some (.int .i64 rd) ∧ w'.cell? ⟨g, 2, none⟩ = some (.int .i64 rs1) ∧ w'.cell? ⟨g, 3, none⟩ = some (.int .i64 rs2) ∧ w'.cell? ⟨g, 4, none⟩ = some (.int .i64 imm) ∧ w'.cell? ⟨g, 7, none⟩ = some (.int .i64 pred) ∧ w'.cell? ⟨g, 8, none⟩ = some (.int .i64 succ))
    (first | (exact ⟨by assumption, by assumption, by assumption, by assumption, by assumption, by assumption, by assumption, by assumption⟩) | (exact ⟨Jn.drew (by assumption), by assumption, by assumption, by assumption, by assumption, by assumption, by assumption, by assumption⟩))
    (first
      | (go_at_call 37; (with_reducible refine (KD1 g _ ?_).mono ?_); (first | assumption | exact Jn.drew (by assumption)); rintro e w' ⟨rfl, hJ, d0, d1, d2, d3, d4, d5, d6, d7, d8⟩)
      | (go_at_call 37; (with_reducible refine (KD2 g _ ?_).mono ?_); (first | assumption | exact Jn.drew (by assumption)); rintro e w' ⟨rfl, hJ, d0, d1, d2, d3, d4, d5, d6, d7, d8⟩)
      | (go_at_call 37; (with_reducible refine (KD3 g _ ?_).mono ?_); (first | assumption | exact Jn.drew (by assumption)); rintro e w' ⟨rfl, hJ, d0, d1, d2, d3, d4, d5, d6, d7, d8⟩)
      | (go_at_call 37; (with_reducible refine (KD4 g _ ?_).mono ?_); (first | assumption | exact Jn.drew (by assumption)); rintro e w' ⟨rfl, hJ, d0, d1, d2, d3, d4, d5, d6, d7, d8⟩))
  all_goals go_wp2_with fail
  all_goals go_ret
  all_goals exact ⟨by rw [tx, HE.out]; rfl, Jn.bw' (by assumption)⟩

theorem text_c (i : Ins) (h : Rgt i) (hk : srt i.op = 11) (w : World) : Calls Tryz.prog 36 #[insV i] w fun e w' => e = .returned (tx (textT i)) ∧ BW w w' := by
  cases ha : i.aq <;> cases hl : i.rl
  · exact text_c_ff i h ha hl hk w
  · exact text_c_ft i h ha hl hk w
  · exact text_c_tf i h ha hl hk w
  · exact text_c_tt i h ha hl hk w

set_option maxRecDepth 100000 in
set_option maxHeartbeats 20000000 in
theorem text_a_ff (i : Ins) (h : Rgt i) (haq : i.aq = false) (hrl : i.rl = false) (hk : srt i.op = 12) (w : World) : Calls Tryz.prog 36 #[insV i] w fun e w' => e = .returned (tx (textT i)) ∧ BW w w' := by
  have hs := srt_spec i.op
  have hop := h.op
  have ho : I64 i.op := ⟨by omega, by omega⟩
  have hrd := h.rd
  have hr1 := h.rs1
  have hr2 := h.rs2
  have hI := imm_I64 h
  have hA := h.at1
  have hF := h.fen
  obtain ⟨op, rd, rs1, rs2, imm, aq, rl, pred, succ⟩ := i
  simp only at hs hop ho hrd hr1 hr2 hI hA hF hk
  simp only at haq hrl
  subst haq
  subst hrl
  clear h
  have hT : textT ⟨op, rd, rs1, rs2, imm, false, false, pred, succ⟩ = nmO op ++ annT false false ++ ([32] ++ regT rd ++ [44, 32] ++ regT rs2 ++ [44, 32, 40] ++ regT rs1 ++ [41]) := by
    unfold textT tailT cmS
    simp only
    rw [if_neg (by omega), if_neg (by omega), if_neg (by omega), if_neg (by omega), if_neg (by omega), if_neg (by omega), if_neg (by omega), if_neg (by omega), if_pos (by omega)]
    try simp only [List.append_assoc, List.cons_append, List.nil_append]
  have HJ0 : Jn w ⟨op, rd, rs1, rs2, imm, false, false, pred, succ⟩ w.heap.size (w.alloc (.cells (insCells ⟨op, rd, rs1, rs2, imm, false, false, pred, succ⟩) 40)) := ⟨BW.new (Below.refl _ _) _, Blk.new _ _ _, Nat.le_refl _⟩
  have KS := fun g w1 (h : Jn w ⟨op, rd, rs1, rs2, imm, false, false, pred, succ⟩ g w1) => (rsort_any op ho.1 ho.2 w1).mono fun e w' (hh : _ ∧ _) => And.intro hh.1 (h.on hh.2)
  have KN := fun g w1 (h : Jn w ⟨op, rd, rs1, rs2, imm, false, false, pred, succ⟩ g w1) => (rname_any op ho.1 ho.2 w1).mono fun e w' (hh : _ ∧ _) => And.intro hh.1 (h.on hh.2)
  rw [hk] at KS
  have n3 : (op == 3) = false := by rw [beq_eq_false_iff_ne]; omega
  have n50 : (op == 50) = false := by rw [beq_eq_false_iff_ne]; omega
  have KD1 := fun g w1 (h : Jn w ⟨op, rd, rs1, rs2, imm, false, false, pred, succ⟩ g w1) => (rdigits_any rd (by unfold I64; omega) w1).mono fun e w' (hh : _ ∧ _) => And.intro hh.1 (And.intro (h.on hh.2) (h.on hh.2).cells)
  have KD2 := fun g w1 (h : Jn w ⟨op, rd, rs1, rs2, imm, false, false, pred, succ⟩ g w1) => (rdigits_any rs1 (by unfold I64; omega) w1).mono fun e w' (hh : _ ∧ _) => And.intro hh.1 (And.intro (h.on hh.2) (h.on hh.2).cells)
  have KD3 := fun g w1 (h : Jn w ⟨op, rd, rs1, rs2, imm, false, false, pred, succ⟩ g w1) => (rdigits_any rs2 (by unfold I64; omega) w1).mono fun e w' (hh : _ ∧ _) => And.intro hh.1 (And.intro (h.on hh.2) (h.on hh.2).cells)
  have KD4 := fun g w1 (h : Jn w ⟨op, rd, rs1, rs2, imm, false, false, pred, succ⟩ g w1) => (rdigits_any imm (hI) w1).mono fun e w' (hh : _ ∧ _) => And.intro hh.1 (And.intro (h.on hh.2) (h.on hh.2).cells)
  have l1 := regT_len hrd
  have l2 := regT_len hr1
  have l3 := regT_len hr2
  have l4 := digI_len hI
  have x1 : ∀ w2 : World, (Op.stringOp .add (⟨#[120]⟩ : ByteArray) (bs (digI rd))).run Tryz.prog w2 = .ok (.string (bs (regT rd))) w2 := fun w2 => cat [120] (digI rd) (by simp) (by unfold regT at l1; simp at l1; omega) w2
  have x2 : ∀ w2 : World, (Op.stringOp .add (⟨#[120]⟩ : ByteArray) (bs (digI rs1))).run Tryz.prog w2 = .ok (.string (bs (regT rs1))) w2 := fun w2 => cat [120] (digI rs1) (by simp) (by unfold regT at l2; simp at l2; omega) w2
  have x3 : ∀ w2 : World, (Op.stringOp .add (⟨#[120]⟩ : ByteArray) (bs (digI rs2))).run Tryz.prog w2 = .ok (.string (bs (regT rs2))) w2 := fun w2 => cat [120] (digI rs2) (by simp) (by unfold regT at l3; simp at l3; omega) w2
  have l0 := nmO_len op
  have HT := Lib.hid hT
  clear hT hA hF hs hop ho
  obtain ⟨S, hS⟩ : ∃ S, nmO op = S := ⟨_, rfl⟩
  rw [hS] at KN HT l0
  clear hS
  unfold tx at KN KD1 KD2 KD3 KD4
  generalize digI rd = D1 at KD1 x1
  obtain ⟨R1, hR1⟩ : ∃ R, regT rd = R := ⟨_, rfl⟩
  rw [hR1] at l1 x1
  generalize digI rs1 = D2 at KD2 x2
  obtain ⟨R2, hR2⟩ : ∃ R, regT rs1 = R := ⟨_, rfl⟩
  rw [hR2] at l2 x2
  generalize digI rs2 = D3 at KD3 x3
  obtain ⟨R3, hR3⟩ : ∃ R, regT rs2 = R := ⟨_, rfl⟩
  rw [hR3] at l3 x3
  obtain ⟨D4, hD4⟩ : ∃ R, digI imm = R := ⟨_, rfl⟩
  rw [hD4] at l4 KD4
  have HT : Hid (textT ⟨op, rd, rs1, rs2, imm, false, false, pred, succ⟩ = S ++ annT false false ++ ([32] ++ R1 ++ [44, 32] ++ R3 ++ [44, 32, 40] ++ R2 ++ [41])) := by have := HT.out; rw [hR1, hR3, hR2] at this; exact this
  clear hR1 hR2 hR3 hD4
  obtain ⟨Z, hZ⟩ : ∃ Z, S ++ annT false false = Z := ⟨_, rfl⟩
  have lz : Z.length ≤ 20 := by rw [← hZ]; simp [annT] <;> omega
  rw [hZ] at HT
  have f0 : ∀ w2 : World, (Op.stringOp .add (bs Z) (⟨#[32]⟩ : ByteArray)).run Tryz.prog w2 = .ok (.string (bs (Z ++ [32]))) w2 := fun w2 => cat Z [32] (by first | omega | (simp; omega)) (by first | omega | simp) w2
  have f1 : ∀ w2 : World, (Op.stringOp .add (bs (Z ++ [32])) (bs R1)).run Tryz.prog w2 = .ok (.string (bs (Z ++ [32] ++ R1))) w2 := fun w2 => cat (Z ++ [32]) R1 (by first | omega | (simp; omega)) (by omega) w2
  have f2 : ∀ w2 : World, (Op.stringOp .add (bs (Z ++ [32] ++ R1)) (⟨#[44, 32]⟩ : ByteArray)).run Tryz.prog w2 = .ok (.string (bs (Z ++ [32] ++ R1 ++ [44, 32]))) w2 := fun w2 => cat (Z ++ [32] ++ R1) [44, 32] (by first | omega | (simp; omega)) (by first | omega | simp) w2
  have f3 : ∀ w2 : World, (Op.stringOp .add (bs (Z ++ [32] ++ R1 ++ [44, 32])) (bs R3)).run Tryz.prog w2 = .ok (.string (bs (Z ++ [32] ++ R1 ++ [44, 32] ++ R3))) w2 := fun w2 => cat (Z ++ [32] ++ R1 ++ [44, 32]) R3 (by first | omega | (simp; omega)) (by omega) w2
  have f4 : ∀ w2 : World, (Op.stringOp .add (bs (Z ++ [32] ++ R1 ++ [44, 32] ++ R3)) (⟨#[44, 32, 40]⟩ : ByteArray)).run Tryz.prog w2 = .ok (.string (bs (Z ++ [32] ++ R1 ++ [44, 32] ++ R3 ++ [44, 32, 40]))) w2 := fun w2 => cat (Z ++ [32] ++ R1 ++ [44, 32] ++ R3) [44, 32, 40] (by first | omega | (simp; omega)) (by first | omega | simp) w2
  have f5 : ∀ w2 : World, (Op.stringOp .add (bs (Z ++ [32] ++ R1 ++ [44, 32] ++ R3 ++ [44, 32, 40])) (bs R2)).run Tryz.prog w2 = .ok (.string (bs (Z ++ [32] ++ R1 ++ [44, 32] ++ R3 ++ [44, 32, 40] ++ R2))) w2 := fun w2 => cat (Z ++ [32] ++ R1 ++ [44, 32] ++ R3 ++ [44, 32, 40]) R2 (by first | omega | (simp; omega)) (by omega) w2
  have f6 : ∀ w2 : World, (Op.stringOp .add (bs (Z ++ [32] ++ R1 ++ [44, 32] ++ R3 ++ [44, 32, 40] ++ R2)) (⟨#[41]⟩ : ByteArray)).run Tryz.prog w2 = .ok (.string (bs (Z ++ [32] ++ R1 ++ [44, 32] ++ R3 ++ [44, 32, 40] ++ R2 ++ [41]))) w2 := fun w2 => cat (Z ++ [32] ++ R1 ++ [44, 32] ++ R3 ++ [44, 32, 40] ++ R2) [41] (by first | omega | (simp; omega)) (by first | omega | simp) w2
  have hE : bs (textT ⟨op, rd, rs1, rs2, imm, false, false, pred, succ⟩) = bs (Z ++ [32] ++ R1 ++ [44, 32] ++ R3 ++ [44, 32, 40] ++ R2 ++ [41]) := by rw [HT.out]; simp
  clear HT
  generalize bs (Z ++ [32] ++ R1 ++ [44, 32] ++ R3 ++ [44, 32, 40] ++ R2 ++ [41]) = q6 at f6 hE
  generalize bs (Z ++ [32] ++ R1 ++ [44, 32] ++ R3 ++ [44, 32, 40] ++ R2) = q5 at f5 f6
  generalize bs (Z ++ [32] ++ R1 ++ [44, 32] ++ R3 ++ [44, 32, 40]) = q4 at f4 f5
  generalize bs (Z ++ [32] ++ R1 ++ [44, 32] ++ R3) = q3 at f3 f4
  generalize bs (Z ++ [32] ++ R1 ++ [44, 32]) = q2 at f2 f3
  generalize bs (Z ++ [32] ++ R1) = q1 at f1 f2
  generalize bs (Z ++ [32]) = q0 at f0 f1
  have HE := Lib.hid hE
  clear hE
  have a1 : ∀ w2 : World, (Op.stringOp .add (bs S) (⟨#[46]⟩ : ByteArray)).run Tryz.prog w2 = .ok (.string (bs (S ++ [46]))) w2 := fun w2 => cat S [46] (by omega) (by simp) w2
  have a2 : ∀ w2 : World, (Op.stringOp .add (bs (S ++ [46])) (⟨#[97, 113]⟩ : ByteArray)).run Tryz.prog w2 = .ok (.string (bs (S ++ [46] ++ [97, 113]))) w2 := fun w2 => cat (S ++ [46]) [97, 113] (by simp; omega) (by simp) w2
  have a3 : ∀ w2 : World, (Op.stringOp .add (bs (S ++ [46])) (⟨#[114, 108]⟩ : ByteArray)).run Tryz.prog w2 = .ok (.string (bs (S ++ [46] ++ [114, 108]))) w2 := fun w2 => cat (S ++ [46]) [114, 108] (by simp; omega) (by simp) w2
  have a4 : ∀ w2 : World, (Op.stringOp .add (bs (S ++ [46] ++ [97, 113])) (⟨#[114, 108]⟩ : ByteArray)).run Tryz.prog w2 = .ok (.string (bs (S ++ [46] ++ [97, 113] ++ [114, 108]))) w2 := fun w2 => cat (S ++ [46] ++ [97, 113]) [114, 108] (by simp; omega) (by simp) w2
  have z1 : annT false false = [] := rfl
  have z2 : S ++ annT true false = S ++ [46] ++ [97, 113] := by simp [annT]
  have z3 : S ++ annT false true = S ++ [46] ++ [114, 108] := by simp [annT]
  have z4 : S ++ annT true true = S ++ [46] ++ [97, 113] ++ [114, 108] := by simp [annT]
  clear l0 l1 l2 l3 l4 lz
  first
    | (rw [z1, List.append_nil] at hZ)
    | (rw [z2] at hZ)
    | (rw [z3] at hZ)
    | (rw [z4] at hZ)
  clear z1 z2 z3 z4
  try rw [hZ] at a2
  try rw [hZ] at a3
  try rw [hZ] at a4
  try rw [hZ] at a1 KN
  clear hZ
  try generalize bs (S ++ [46] ++ [97, 113]) = qa at *
  try generalize bs (S ++ [46] ++ [114, 108]) = qb at *
  try generalize bs (S ++ [46]) = qc at *
  unfold insV
  unfold insCells at HJ0
  go_enter Tryz.func36, Tryz.ntmps36
  go_upto_region 1 with (fail)
  generalize w.alloc (.cells _ 40) = w1 at *
  obtain ⟨g, hg⟩ : ∃ g, w.heap.size = g := ⟨_, rfl⟩
  rw [hg] at HJ0 ⊢
  have HG := Lib.hid hg
  clear hg
  obtain ⟨c0, c1, c2, c3, c4, c5, c6, c7, c8⟩ := HJ0.cells
  go_upto_region 2 with (first
    | (go_at_call 46; refine (KS g _ HJ0).mono ?_; rintro e w2 ⟨rfl, HJ1⟩))
  clear c0 c1 c2 c3 c4 c5 c6 c7 c8 HJ0
  obtain ⟨c0, c1, c2, c3, c4, c5, c6, c7, c8⟩ := HJ1.cells
  go_upto_region 3 with (first
    | (go_at_call 58; refine (KN g _ HJ1).mono ?_; rintro e w3 ⟨rfl, HJ2⟩))
  clear c0 c1 c2 c3 c4 c5 c6 c7 c8 HJ1
  obtain ⟨c0, c1, c2, c3, c4, c5, c6, c7, c8⟩ := HJ2.cells
  go_upto_region 9 with fail
  clear c5 c6 KS KN
  clear a1 a2 a3 a4
  go_region_held3 (fun w' => Jn w ⟨op, rd, rs1, rs2, imm, false, false, pred, succ⟩ g w' ∧ w'.cell? ⟨g, 0, none⟩ = some (.int .i64 op) ∧ w'.cell? ⟨g, 1, none⟩ = some (.int .i64 rd) ∧ w'.cell? ⟨g, 2, none⟩ = some (.int .i64 rs1) ∧ w'.cell? ⟨g, 3, none⟩ = some (.int .i64 rs2) ∧ w'.cell? ⟨g, 4, none⟩ = some (.int .i64 imm) ∧ w'.cell? ⟨g, 7, none⟩ = some (.int .i64 pred) ∧ w'.cell? ⟨g, 8, none⟩ = some (.int .i64 succ))
    (first | (exact ⟨by assumption, by assumption, by assumption, by assumption, by assumption, by assumption, by assumption, by assumption⟩) | (exact ⟨Jn.drew (by assumption), by assumption, by assumption, by assumption, by assumption, by assumption, by assumption, by assumption⟩))
    (first
      | (go_at_call 37; (with_reducible refine (KD1 g _ ?_).mono ?_); (first | assumption | exact Jn.drew (by assumption)); rintro e w' ⟨rfl, hJ, d0, d1, d2, d3, d4, d5, d6, d7, d8⟩)
      | (go_at_call 37; (with_reducible refine (KD2 g _ ?_).mono ?_); (first | assumption | exact Jn.drew (by assumption)); rintro e w' ⟨rfl, hJ, d0, d1, d2, d3, d4, d5, d6, d7, d8⟩)
      | (go_at_call 37; (with_reducible refine (KD3 g _ ?_).mono ?_); (first | assumption | exact Jn.drew (by assumption)); rintro e w' ⟨rfl, hJ, d0, d1, d2, d3, d4, d5, d6, d7, d8⟩)
      | (go_at_call 37; (with_reducible refine (KD4 g _ ?_).mono ?_); (first | assumption | exact Jn.drew (by assumption)); rintro e w' ⟨rfl, hJ, d0, d1, d2, d3, d4, d5, d6, d7, d8⟩))
  all_goals go_wp2_with fail
  all_goals go_ret
  all_goals exact ⟨by rw [tx, HE.out]; rfl, Jn.bw' (by assumption)⟩

set_option maxRecDepth 100000 in
set_option maxHeartbeats 20000000 in
theorem text_a_ft (i : Ins) (h : Rgt i) (haq : i.aq = false) (hrl : i.rl = true) (hk : srt i.op = 12) (w : World) : Calls Tryz.prog 36 #[insV i] w fun e w' => e = .returned (tx (textT i)) ∧ BW w w' := by
  have hs := srt_spec i.op
  have hop := h.op
  have ho : I64 i.op := ⟨by omega, by omega⟩
  have hrd := h.rd
  have hr1 := h.rs1
  have hr2 := h.rs2
  have hI := imm_I64 h
  have hA := h.at1
  have hF := h.fen
  obtain ⟨op, rd, rs1, rs2, imm, aq, rl, pred, succ⟩ := i
  simp only at hs hop ho hrd hr1 hr2 hI hA hF hk
  simp only at haq hrl
  subst haq
  subst hrl
  clear h
  have hT : textT ⟨op, rd, rs1, rs2, imm, false, true, pred, succ⟩ = nmO op ++ annT false true ++ ([32] ++ regT rd ++ [44, 32] ++ regT rs2 ++ [44, 32, 40] ++ regT rs1 ++ [41]) := by
    unfold textT tailT cmS
    simp only
    rw [if_neg (by omega), if_neg (by omega), if_neg (by omega), if_neg (by omega), if_neg (by omega), if_neg (by omega), if_neg (by omega), if_neg (by omega), if_pos (by omega)]
    try simp only [List.append_assoc, List.cons_append, List.nil_append]
  have HJ0 : Jn w ⟨op, rd, rs1, rs2, imm, false, true, pred, succ⟩ w.heap.size (w.alloc (.cells (insCells ⟨op, rd, rs1, rs2, imm, false, true, pred, succ⟩) 40)) := ⟨BW.new (Below.refl _ _) _, Blk.new _ _ _, Nat.le_refl _⟩
  have KS := fun g w1 (h : Jn w ⟨op, rd, rs1, rs2, imm, false, true, pred, succ⟩ g w1) => (rsort_any op ho.1 ho.2 w1).mono fun e w' (hh : _ ∧ _) => And.intro hh.1 (h.on hh.2)
  have KN := fun g w1 (h : Jn w ⟨op, rd, rs1, rs2, imm, false, true, pred, succ⟩ g w1) => (rname_any op ho.1 ho.2 w1).mono fun e w' (hh : _ ∧ _) => And.intro hh.1 (h.on hh.2)
  rw [hk] at KS
  have n3 : (op == 3) = false := by rw [beq_eq_false_iff_ne]; omega
  have n50 : (op == 50) = false := by rw [beq_eq_false_iff_ne]; omega
  have KD1 := fun g w1 (h : Jn w ⟨op, rd, rs1, rs2, imm, false, true, pred, succ⟩ g w1) => (rdigits_any rd (by unfold I64; omega) w1).mono fun e w' (hh : _ ∧ _) => And.intro hh.1 (And.intro (h.on hh.2) (h.on hh.2).cells)
  have KD2 := fun g w1 (h : Jn w ⟨op, rd, rs1, rs2, imm, false, true, pred, succ⟩ g w1) => (rdigits_any rs1 (by unfold I64; omega) w1).mono fun e w' (hh : _ ∧ _) => And.intro hh.1 (And.intro (h.on hh.2) (h.on hh.2).cells)
  have KD3 := fun g w1 (h : Jn w ⟨op, rd, rs1, rs2, imm, false, true, pred, succ⟩ g w1) => (rdigits_any rs2 (by unfold I64; omega) w1).mono fun e w' (hh : _ ∧ _) => And.intro hh.1 (And.intro (h.on hh.2) (h.on hh.2).cells)
  have KD4 := fun g w1 (h : Jn w ⟨op, rd, rs1, rs2, imm, false, true, pred, succ⟩ g w1) => (rdigits_any imm (hI) w1).mono fun e w' (hh : _ ∧ _) => And.intro hh.1 (And.intro (h.on hh.2) (h.on hh.2).cells)
  have l1 := regT_len hrd
  have l2 := regT_len hr1
  have l3 := regT_len hr2
  have l4 := digI_len hI
  have x1 : ∀ w2 : World, (Op.stringOp .add (⟨#[120]⟩ : ByteArray) (bs (digI rd))).run Tryz.prog w2 = .ok (.string (bs (regT rd))) w2 := fun w2 => cat [120] (digI rd) (by simp) (by unfold regT at l1; simp at l1; omega) w2
  have x2 : ∀ w2 : World, (Op.stringOp .add (⟨#[120]⟩ : ByteArray) (bs (digI rs1))).run Tryz.prog w2 = .ok (.string (bs (regT rs1))) w2 := fun w2 => cat [120] (digI rs1) (by simp) (by unfold regT at l2; simp at l2; omega) w2
  have x3 : ∀ w2 : World, (Op.stringOp .add (⟨#[120]⟩ : ByteArray) (bs (digI rs2))).run Tryz.prog w2 = .ok (.string (bs (regT rs2))) w2 := fun w2 => cat [120] (digI rs2) (by simp) (by unfold regT at l3; simp at l3; omega) w2
  have l0 := nmO_len op
  have HT := Lib.hid hT
  clear hT hA hF hs hop ho
  obtain ⟨S, hS⟩ : ∃ S, nmO op = S := ⟨_, rfl⟩
  rw [hS] at KN HT l0
  clear hS
  unfold tx at KN KD1 KD2 KD3 KD4
  generalize digI rd = D1 at KD1 x1
  obtain ⟨R1, hR1⟩ : ∃ R, regT rd = R := ⟨_, rfl⟩
  rw [hR1] at l1 x1
  generalize digI rs1 = D2 at KD2 x2
  obtain ⟨R2, hR2⟩ : ∃ R, regT rs1 = R := ⟨_, rfl⟩
  rw [hR2] at l2 x2
  generalize digI rs2 = D3 at KD3 x3
  obtain ⟨R3, hR3⟩ : ∃ R, regT rs2 = R := ⟨_, rfl⟩
  rw [hR3] at l3 x3
  obtain ⟨D4, hD4⟩ : ∃ R, digI imm = R := ⟨_, rfl⟩
  rw [hD4] at l4 KD4
  have HT : Hid (textT ⟨op, rd, rs1, rs2, imm, false, true, pred, succ⟩ = S ++ annT false true ++ ([32] ++ R1 ++ [44, 32] ++ R3 ++ [44, 32, 40] ++ R2 ++ [41])) := by have := HT.out; rw [hR1, hR3, hR2] at this; exact this
  clear hR1 hR2 hR3 hD4
  obtain ⟨Z, hZ⟩ : ∃ Z, S ++ annT false true = Z := ⟨_, rfl⟩
  have lz : Z.length ≤ 20 := by rw [← hZ]; simp [annT] <;> omega
  rw [hZ] at HT
  have f0 : ∀ w2 : World, (Op.stringOp .add (bs Z) (⟨#[32]⟩ : ByteArray)).run Tryz.prog w2 = .ok (.string (bs (Z ++ [32]))) w2 := fun w2 => cat Z [32] (by first | omega | (simp; omega)) (by first | omega | simp) w2
  have f1 : ∀ w2 : World, (Op.stringOp .add (bs (Z ++ [32])) (bs R1)).run Tryz.prog w2 = .ok (.string (bs (Z ++ [32] ++ R1))) w2 := fun w2 => cat (Z ++ [32]) R1 (by first | omega | (simp; omega)) (by omega) w2
  have f2 : ∀ w2 : World, (Op.stringOp .add (bs (Z ++ [32] ++ R1)) (⟨#[44, 32]⟩ : ByteArray)).run Tryz.prog w2 = .ok (.string (bs (Z ++ [32] ++ R1 ++ [44, 32]))) w2 := fun w2 => cat (Z ++ [32] ++ R1) [44, 32] (by first | omega | (simp; omega)) (by first | omega | simp) w2
  have f3 : ∀ w2 : World, (Op.stringOp .add (bs (Z ++ [32] ++ R1 ++ [44, 32])) (bs R3)).run Tryz.prog w2 = .ok (.string (bs (Z ++ [32] ++ R1 ++ [44, 32] ++ R3))) w2 := fun w2 => cat (Z ++ [32] ++ R1 ++ [44, 32]) R3 (by first | omega | (simp; omega)) (by omega) w2
  have f4 : ∀ w2 : World, (Op.stringOp .add (bs (Z ++ [32] ++ R1 ++ [44, 32] ++ R3)) (⟨#[44, 32, 40]⟩ : ByteArray)).run Tryz.prog w2 = .ok (.string (bs (Z ++ [32] ++ R1 ++ [44, 32] ++ R3 ++ [44, 32, 40]))) w2 := fun w2 => cat (Z ++ [32] ++ R1 ++ [44, 32] ++ R3) [44, 32, 40] (by first | omega | (simp; omega)) (by first | omega | simp) w2
  have f5 : ∀ w2 : World, (Op.stringOp .add (bs (Z ++ [32] ++ R1 ++ [44, 32] ++ R3 ++ [44, 32, 40])) (bs R2)).run Tryz.prog w2 = .ok (.string (bs (Z ++ [32] ++ R1 ++ [44, 32] ++ R3 ++ [44, 32, 40] ++ R2))) w2 := fun w2 => cat (Z ++ [32] ++ R1 ++ [44, 32] ++ R3 ++ [44, 32, 40]) R2 (by first | omega | (simp; omega)) (by omega) w2
  have f6 : ∀ w2 : World, (Op.stringOp .add (bs (Z ++ [32] ++ R1 ++ [44, 32] ++ R3 ++ [44, 32, 40] ++ R2)) (⟨#[41]⟩ : ByteArray)).run Tryz.prog w2 = .ok (.string (bs (Z ++ [32] ++ R1 ++ [44, 32] ++ R3 ++ [44, 32, 40] ++ R2 ++ [41]))) w2 := fun w2 => cat (Z ++ [32] ++ R1 ++ [44, 32] ++ R3 ++ [44, 32, 40] ++ R2) [41] (by first | omega | (simp; omega)) (by first | omega | simp) w2
  have hE : bs (textT ⟨op, rd, rs1, rs2, imm, false, true, pred, succ⟩) = bs (Z ++ [32] ++ R1 ++ [44, 32] ++ R3 ++ [44, 32, 40] ++ R2 ++ [41]) := by rw [HT.out]; simp
  clear HT
  generalize bs (Z ++ [32] ++ R1 ++ [44, 32] ++ R3 ++ [44, 32, 40] ++ R2 ++ [41]) = q6 at f6 hE
  generalize bs (Z ++ [32] ++ R1 ++ [44, 32] ++ R3 ++ [44, 32, 40] ++ R2) = q5 at f5 f6
  generalize bs (Z ++ [32] ++ R1 ++ [44, 32] ++ R3 ++ [44, 32, 40]) = q4 at f4 f5
  generalize bs (Z ++ [32] ++ R1 ++ [44, 32] ++ R3) = q3 at f3 f4
  generalize bs (Z ++ [32] ++ R1 ++ [44, 32]) = q2 at f2 f3
  generalize bs (Z ++ [32] ++ R1) = q1 at f1 f2
  generalize bs (Z ++ [32]) = q0 at f0 f1
  have HE := Lib.hid hE
  clear hE
  have a1 : ∀ w2 : World, (Op.stringOp .add (bs S) (⟨#[46]⟩ : ByteArray)).run Tryz.prog w2 = .ok (.string (bs (S ++ [46]))) w2 := fun w2 => cat S [46] (by omega) (by simp) w2
  have a2 : ∀ w2 : World, (Op.stringOp .add (bs (S ++ [46])) (⟨#[97, 113]⟩ : ByteArray)).run Tryz.prog w2 = .ok (.string (bs (S ++ [46] ++ [97, 113]))) w2 := fun w2 => cat (S ++ [46]) [97, 113] (by simp; omega) (by simp) w2
  have a3 : ∀ w2 : World, (Op.stringOp .add (bs (S ++ [46])) (⟨#[114, 108]⟩ : ByteArray)).run Tryz.prog w2 = .ok (.string (bs (S ++ [46] ++ [114, 108]))) w2 := fun w2 => cat (S ++ [46]) [114, 108] (by simp; omega) (by simp) w2
  have a4 : ∀ w2 : World, (Op.stringOp .add (bs (S ++ [46] ++ [97, 113])) (⟨#[114, 108]⟩ : ByteArray)).run Tryz.prog w2 = .ok (.string (bs (S ++ [46] ++ [97, 113] ++ [114, 108]))) w2 := fun w2 => cat (S ++ [46] ++ [97, 113]) [114, 108] (by simp; omega) (by simp) w2
  have z1 : annT false false = [] := rfl
  have z2 : S ++ annT true false = S ++ [46] ++ [97, 113] := by simp [annT]
  have z3 : S ++ annT false true = S ++ [46] ++ [114, 108] := by simp [annT]
  have z4 : S ++ annT true true = S ++ [46] ++ [97, 113] ++ [114, 108] := by simp [annT]
  clear l0 l1 l2 l3 l4 lz
  first
    | (rw [z1, List.append_nil] at hZ)
    | (rw [z2] at hZ)
    | (rw [z3] at hZ)
    | (rw [z4] at hZ)
  clear z1 z2 z3 z4
  try rw [hZ] at a2
  try rw [hZ] at a3
  try rw [hZ] at a4
  try rw [hZ] at a1 KN
  clear hZ
  try generalize bs (S ++ [46] ++ [97, 113]) = qa at *
  try generalize bs (S ++ [46] ++ [114, 108]) = qb at *
  try generalize bs (S ++ [46]) = qc at *
  unfold insV
  unfold insCells at HJ0
  go_enter Tryz.func36, Tryz.ntmps36
  go_upto_region 1 with (fail)
  generalize w.alloc (.cells _ 40) = w1 at *
  obtain ⟨g, hg⟩ : ∃ g, w.heap.size = g := ⟨_, rfl⟩
  rw [hg] at HJ0 ⊢
  have HG := Lib.hid hg
  clear hg
  obtain ⟨c0, c1, c2, c3, c4, c5, c6, c7, c8⟩ := HJ0.cells
  go_upto_region 2 with (first
    | (go_at_call 46; refine (KS g _ HJ0).mono ?_; rintro e w2 ⟨rfl, HJ1⟩))
  clear c0 c1 c2 c3 c4 c5 c6 c7 c8 HJ0
  obtain ⟨c0, c1, c2, c3, c4, c5, c6, c7, c8⟩ := HJ1.cells
  go_upto_region 3 with (first
    | (go_at_call 58; refine (KN g _ HJ1).mono ?_; rintro e w3 ⟨rfl, HJ2⟩))
  clear c0 c1 c2 c3 c4 c5 c6 c7 c8 HJ1
  obtain ⟨c0, c1, c2, c3, c4, c5, c6, c7, c8⟩ := HJ2.cells
  go_upto_region 9 with fail
  clear c5 c6 KS KN
  clear a1 a2 a3 a4
  go_region_held3 (fun w' => Jn w ⟨op, rd, rs1, rs2, imm, false, true, pred, succ⟩ g w' ∧ w'.cell? ⟨g, 0, none⟩ = some (.int .i64 op) ∧ w'.cell? ⟨g, 1, none⟩ = some (.int .i64 rd) ∧ w'.cell? ⟨g, 2, none⟩ = some (.int .i64 rs1) ∧ w'.cell? ⟨g, 3, none⟩ = some (.int .i64 rs2) ∧ w'.cell? ⟨g, 4, none⟩ = some (.int .i64 imm) ∧ w'.cell? ⟨g, 7, none⟩ = some (.int .i64 pred) ∧ w'.cell? ⟨g, 8, none⟩ = some (.int .i64 succ))
    (first | (exact ⟨by assumption, by assumption, by assumption, by assumption, by assumption, by assumption, by assumption, by assumption⟩) | (exact ⟨Jn.drew (by assumption), by assumption, by assumption, by assumption, by assumption, by assumption, by assumption, by assumption⟩))
    (first
      | (go_at_call 37; (with_reducible refine (KD1 g _ ?_).mono ?_); (first | assumption | exact Jn.drew (by assumption)); rintro e w' ⟨rfl, hJ, d0, d1, d2, d3, d4, d5, d6, d7, d8⟩)
      | (go_at_call 37; (with_reducible refine (KD2 g _ ?_).mono ?_); (first | assumption | exact Jn.drew (by assumption)); rintro e w' ⟨rfl, hJ, d0, d1, d2, d3, d4, d5, d6, d7, d8⟩)
      | (go_at_call 37; (with_reducible refine (KD3 g _ ?_).mono ?_); (first | assumption | exact Jn.drew (by assumption)); rintro e w' ⟨rfl, hJ, d0, d1, d2, d3, d4, d5, d6, d7, d8⟩)
      | (go_at_call 37; (with_reducible refine (KD4 g _ ?_).mono ?_); (first | assumption | exact Jn.drew (by assumption)); rintro e w' ⟨rfl, hJ, d0, d1, d2, d3, d4, d5, d6, d7, d8⟩))
  all_goals go_wp2_with fail
  all_goals go_ret
  all_goals exact ⟨by rw [tx, HE.out]; rfl, Jn.bw' (by assumption)⟩

set_option maxRecDepth 100000 in
set_option maxHeartbeats 20000000 in
theorem text_a_tf (i : Ins) (h : Rgt i) (haq : i.aq = true) (hrl : i.rl = false) (hk : srt i.op = 12) (w : World) : Calls Tryz.prog 36 #[insV i] w fun e w' => e = .returned (tx (textT i)) ∧ BW w w' := by
  have hs := srt_spec i.op
  have hop := h.op
  have ho : I64 i.op := ⟨by omega, by omega⟩
  have hrd := h.rd
  have hr1 := h.rs1
  have hr2 := h.rs2
  have hI := imm_I64 h
  have hA := h.at1
  have hF := h.fen
  obtain ⟨op, rd, rs1, rs2, imm, aq, rl, pred, succ⟩ := i
  simp only at hs hop ho hrd hr1 hr2 hI hA hF hk
  simp only at haq hrl
  subst haq
  subst hrl
  clear h
  have hT : textT ⟨op, rd, rs1, rs2, imm, true, false, pred, succ⟩ = nmO op ++ annT true false ++ ([32] ++ regT rd ++ [44, 32] ++ regT rs2 ++ [44, 32, 40] ++ regT rs1 ++ [41]) := by
    unfold textT tailT cmS
    simp only
    rw [if_neg (by omega), if_neg (by omega), if_neg (by omega), if_neg (by omega), if_neg (by omega), if_neg (by omega), if_neg (by omega), if_neg (by omega), if_pos (by omega)]
    try simp only [List.append_assoc, List.cons_append, List.nil_append]
  have HJ0 : Jn w ⟨op, rd, rs1, rs2, imm, true, false, pred, succ⟩ w.heap.size (w.alloc (.cells (insCells ⟨op, rd, rs1, rs2, imm, true, false, pred, succ⟩) 40)) := ⟨BW.new (Below.refl _ _) _, Blk.new _ _ _, Nat.le_refl _⟩
  have KS := fun g w1 (h : Jn w ⟨op, rd, rs1, rs2, imm, true, false, pred, succ⟩ g w1) => (rsort_any op ho.1 ho.2 w1).mono fun e w' (hh : _ ∧ _) => And.intro hh.1 (h.on hh.2)
  have KN := fun g w1 (h : Jn w ⟨op, rd, rs1, rs2, imm, true, false, pred, succ⟩ g w1) => (rname_any op ho.1 ho.2 w1).mono fun e w' (hh : _ ∧ _) => And.intro hh.1 (h.on hh.2)
  rw [hk] at KS
  have n3 : (op == 3) = false := by rw [beq_eq_false_iff_ne]; omega
  have n50 : (op == 50) = false := by rw [beq_eq_false_iff_ne]; omega
  have KD1 := fun g w1 (h : Jn w ⟨op, rd, rs1, rs2, imm, true, false, pred, succ⟩ g w1) => (rdigits_any rd (by unfold I64; omega) w1).mono fun e w' (hh : _ ∧ _) => And.intro hh.1 (And.intro (h.on hh.2) (h.on hh.2).cells)
  have KD2 := fun g w1 (h : Jn w ⟨op, rd, rs1, rs2, imm, true, false, pred, succ⟩ g w1) => (rdigits_any rs1 (by unfold I64; omega) w1).mono fun e w' (hh : _ ∧ _) => And.intro hh.1 (And.intro (h.on hh.2) (h.on hh.2).cells)
  have KD3 := fun g w1 (h : Jn w ⟨op, rd, rs1, rs2, imm, true, false, pred, succ⟩ g w1) => (rdigits_any rs2 (by unfold I64; omega) w1).mono fun e w' (hh : _ ∧ _) => And.intro hh.1 (And.intro (h.on hh.2) (h.on hh.2).cells)
  have KD4 := fun g w1 (h : Jn w ⟨op, rd, rs1, rs2, imm, true, false, pred, succ⟩ g w1) => (rdigits_any imm (hI) w1).mono fun e w' (hh : _ ∧ _) => And.intro hh.1 (And.intro (h.on hh.2) (h.on hh.2).cells)
  have l1 := regT_len hrd
  have l2 := regT_len hr1
  have l3 := regT_len hr2
  have l4 := digI_len hI
  have x1 : ∀ w2 : World, (Op.stringOp .add (⟨#[120]⟩ : ByteArray) (bs (digI rd))).run Tryz.prog w2 = .ok (.string (bs (regT rd))) w2 := fun w2 => cat [120] (digI rd) (by simp) (by unfold regT at l1; simp at l1; omega) w2
  have x2 : ∀ w2 : World, (Op.stringOp .add (⟨#[120]⟩ : ByteArray) (bs (digI rs1))).run Tryz.prog w2 = .ok (.string (bs (regT rs1))) w2 := fun w2 => cat [120] (digI rs1) (by simp) (by unfold regT at l2; simp at l2; omega) w2
  have x3 : ∀ w2 : World, (Op.stringOp .add (⟨#[120]⟩ : ByteArray) (bs (digI rs2))).run Tryz.prog w2 = .ok (.string (bs (regT rs2))) w2 := fun w2 => cat [120] (digI rs2) (by simp) (by unfold regT at l3; simp at l3; omega) w2
  have l0 := nmO_len op
  have HT := Lib.hid hT
  clear hT hA hF hs hop ho
  obtain ⟨S, hS⟩ : ∃ S, nmO op = S := ⟨_, rfl⟩
  rw [hS] at KN HT l0
  clear hS
  unfold tx at KN KD1 KD2 KD3 KD4
  generalize digI rd = D1 at KD1 x1
  obtain ⟨R1, hR1⟩ : ∃ R, regT rd = R := ⟨_, rfl⟩
  rw [hR1] at l1 x1
  generalize digI rs1 = D2 at KD2 x2
  obtain ⟨R2, hR2⟩ : ∃ R, regT rs1 = R := ⟨_, rfl⟩
  rw [hR2] at l2 x2
  generalize digI rs2 = D3 at KD3 x3
  obtain ⟨R3, hR3⟩ : ∃ R, regT rs2 = R := ⟨_, rfl⟩
  rw [hR3] at l3 x3
  obtain ⟨D4, hD4⟩ : ∃ R, digI imm = R := ⟨_, rfl⟩
  rw [hD4] at l4 KD4
  have HT : Hid (textT ⟨op, rd, rs1, rs2, imm, true, false, pred, succ⟩ = S ++ annT true false ++ ([32] ++ R1 ++ [44, 32] ++ R3 ++ [44, 32, 40] ++ R2 ++ [41])) := by have := HT.out; rw [hR1, hR3, hR2] at this; exact this
  clear hR1 hR2 hR3 hD4
  obtain ⟨Z, hZ⟩ : ∃ Z, S ++ annT true false = Z := ⟨_, rfl⟩
  have lz : Z.length ≤ 20 := by rw [← hZ]; simp [annT] <;> omega
  rw [hZ] at HT
  have f0 : ∀ w2 : World, (Op.stringOp .add (bs Z) (⟨#[32]⟩ : ByteArray)).run Tryz.prog w2 = .ok (.string (bs (Z ++ [32]))) w2 := fun w2 => cat Z [32] (by first | omega | (simp; omega)) (by first | omega | simp) w2
  have f1 : ∀ w2 : World, (Op.stringOp .add (bs (Z ++ [32])) (bs R1)).run Tryz.prog w2 = .ok (.string (bs (Z ++ [32] ++ R1))) w2 := fun w2 => cat (Z ++ [32]) R1 (by first | omega | (simp; omega)) (by omega) w2
  have f2 : ∀ w2 : World, (Op.stringOp .add (bs (Z ++ [32] ++ R1)) (⟨#[44, 32]⟩ : ByteArray)).run Tryz.prog w2 = .ok (.string (bs (Z ++ [32] ++ R1 ++ [44, 32]))) w2 := fun w2 => cat (Z ++ [32] ++ R1) [44, 32] (by first | omega | (simp; omega)) (by first | omega | simp) w2
  have f3 : ∀ w2 : World, (Op.stringOp .add (bs (Z ++ [32] ++ R1 ++ [44, 32])) (bs R3)).run Tryz.prog w2 = .ok (.string (bs (Z ++ [32] ++ R1 ++ [44, 32] ++ R3))) w2 := fun w2 => cat (Z ++ [32] ++ R1 ++ [44, 32]) R3 (by first | omega | (simp; omega)) (by omega) w2
  have f4 : ∀ w2 : World, (Op.stringOp .add (bs (Z ++ [32] ++ R1 ++ [44, 32] ++ R3)) (⟨#[44, 32, 40]⟩ : ByteArray)).run Tryz.prog w2 = .ok (.string (bs (Z ++ [32] ++ R1 ++ [44, 32] ++ R3 ++ [44, 32, 40]))) w2 := fun w2 => cat (Z ++ [32] ++ R1 ++ [44, 32] ++ R3) [44, 32, 40] (by first | omega | (simp; omega)) (by first | omega | simp) w2
  have f5 : ∀ w2 : World, (Op.stringOp .add (bs (Z ++ [32] ++ R1 ++ [44, 32] ++ R3 ++ [44, 32, 40])) (bs R2)).run Tryz.prog w2 = .ok (.string (bs (Z ++ [32] ++ R1 ++ [44, 32] ++ R3 ++ [44, 32, 40] ++ R2))) w2 := fun w2 => cat (Z ++ [32] ++ R1 ++ [44, 32] ++ R3 ++ [44, 32, 40]) R2 (by first | omega | (simp; omega)) (by omega) w2
  have f6 : ∀ w2 : World, (Op.stringOp .add (bs (Z ++ [32] ++ R1 ++ [44, 32] ++ R3 ++ [44, 32, 40] ++ R2)) (⟨#[41]⟩ : ByteArray)).run Tryz.prog w2 = .ok (.string (bs (Z ++ [32] ++ R1 ++ [44, 32] ++ R3 ++ [44, 32, 40] ++ R2 ++ [41]))) w2 := fun w2 => cat (Z ++ [32] ++ R1 ++ [44, 32] ++ R3 ++ [44, 32, 40] ++ R2) [41] (by first | omega | (simp; omega)) (by first | omega | simp) w2
  have hE : bs (textT ⟨op, rd, rs1, rs2, imm, true, false, pred, succ⟩) = bs (Z ++ [32] ++ R1 ++ [44, 32] ++ R3 ++ [44, 32, 40] ++ R2 ++ [41]) := by rw [HT.out]; simp
  clear HT
  generalize bs (Z ++ [32] ++ R1 ++ [44, 32] ++ R3 ++ [44, 32, 40] ++ R2 ++ [41]) = q6 at f6 hE
  generalize bs (Z ++ [32] ++ R1 ++ [44, 32] ++ R3 ++ [44, 32, 40] ++ R2) = q5 at f5 f6
  generalize bs (Z ++ [32] ++ R1 ++ [44, 32] ++ R3 ++ [44, 32, 40]) = q4 at f4 f5
  generalize bs (Z ++ [32] ++ R1 ++ [44, 32] ++ R3) = q3 at f3 f4
  generalize bs (Z ++ [32] ++ R1 ++ [44, 32]) = q2 at f2 f3
  generalize bs (Z ++ [32] ++ R1) = q1 at f1 f2
  generalize bs (Z ++ [32]) = q0 at f0 f1
  have HE := Lib.hid hE
  clear hE
  have a1 : ∀ w2 : World, (Op.stringOp .add (bs S) (⟨#[46]⟩ : ByteArray)).run Tryz.prog w2 = .ok (.string (bs (S ++ [46]))) w2 := fun w2 => cat S [46] (by omega) (by simp) w2
  have a2 : ∀ w2 : World, (Op.stringOp .add (bs (S ++ [46])) (⟨#[97, 113]⟩ : ByteArray)).run Tryz.prog w2 = .ok (.string (bs (S ++ [46] ++ [97, 113]))) w2 := fun w2 => cat (S ++ [46]) [97, 113] (by simp; omega) (by simp) w2
  have a3 : ∀ w2 : World, (Op.stringOp .add (bs (S ++ [46])) (⟨#[114, 108]⟩ : ByteArray)).run Tryz.prog w2 = .ok (.string (bs (S ++ [46] ++ [114, 108]))) w2 := fun w2 => cat (S ++ [46]) [114, 108] (by simp; omega) (by simp) w2
  have a4 : ∀ w2 : World, (Op.stringOp .add (bs (S ++ [46] ++ [97, 113])) (⟨#[114, 108]⟩ : ByteArray)).run Tryz.prog w2 = .ok (.string (bs (S ++ [46] ++ [97, 113] ++ [114, 108]))) w2 := fun w2 => cat (S ++ [46] ++ [97, 113]) [114, 108] (by simp; omega) (by simp) w2
  have z1 : annT false false = [] := rfl
  have z2 : S ++ annT true false = S ++ [46] ++ [97, 113] := by simp [annT]
  have z3 : S ++ annT false true = S ++ [46] ++ [114, 108] := by simp [annT]
  have z4 : S ++ annT true true = S ++ [46] ++ [97, 113] ++ [114, 108] := by simp [annT]
  clear l0 l1 l2 l3 l4 lz
  first
    | (rw [z1, List.append_nil] at hZ)
    | (rw [z2] at hZ)
    | (rw [z3] at hZ)
    | (rw [z4] at hZ)
  clear z1 z2 z3 z4
  try rw [hZ] at a2
  try rw [hZ] at a3
  try rw [hZ] at a4
  try rw [hZ] at a1 KN
  clear hZ
  try generalize bs (S ++ [46] ++ [97, 113]) = qa at *
  try generalize bs (S ++ [46] ++ [114, 108]) = qb at *
  try generalize bs (S ++ [46]) = qc at *
  unfold insV
  unfold insCells at HJ0
  go_enter Tryz.func36, Tryz.ntmps36
  go_upto_region 1 with (fail)
  generalize w.alloc (.cells _ 40) = w1 at *
  obtain ⟨g, hg⟩ : ∃ g, w.heap.size = g := ⟨_, rfl⟩
  rw [hg] at HJ0 ⊢
  have HG := Lib.hid hg
  clear hg
  obtain ⟨c0, c1, c2, c3, c4, c5, c6, c7, c8⟩ := HJ0.cells
  go_upto_region 2 with (first
    | (go_at_call 46; refine (KS g _ HJ0).mono ?_; rintro e w2 ⟨rfl, HJ1⟩))
  clear c0 c1 c2 c3 c4 c5 c6 c7 c8 HJ0
  obtain ⟨c0, c1, c2, c3, c4, c5, c6, c7, c8⟩ := HJ1.cells
  go_upto_region 3 with (first
    | (go_at_call 58; refine (KN g _ HJ1).mono ?_; rintro e w3 ⟨rfl, HJ2⟩))
  clear c0 c1 c2 c3 c4 c5 c6 c7 c8 HJ1
  obtain ⟨c0, c1, c2, c3, c4, c5, c6, c7, c8⟩ := HJ2.cells
  go_upto_region 9 with fail
  clear c5 c6 KS KN
  clear a1 a2 a3 a4
  go_region_held3 (fun w' => Jn w ⟨op, rd, rs1, rs2, imm, true, false, pred, succ⟩ g w' ∧ w'.cell? ⟨g, 0, none⟩ = some (.int .i64 op) ∧ w'.cell? ⟨g, 1, none⟩ = some (.int .i64 rd) ∧ w'.cell? ⟨g, 2, none⟩ = some (.int .i64 rs1) ∧ w'.cell? ⟨g, 3, none⟩ = some (.int .i64 rs2) ∧ w'.cell? ⟨g, 4, none⟩ = some (.int .i64 imm) ∧ w'.cell? ⟨g, 7, none⟩ = some (.int .i64 pred) ∧ w'.cell? ⟨g, 8, none⟩ = some (.int .i64 succ))
    (first | (exact ⟨by assumption, by assumption, by assumption, by assumption, by assumption, by assumption, by assumption, by assumption⟩) | (exact ⟨Jn.drew (by assumption), by assumption, by assumption, by assumption, by assumption, by assumption, by assumption, by assumption⟩))
    (first
      | (go_at_call 37; (with_reducible refine (KD1 g _ ?_).mono ?_); (first | assumption | exact Jn.drew (by assumption)); rintro e w' ⟨rfl, hJ, d0, d1, d2, d3, d4, d5, d6, d7, d8⟩)
      | (go_at_call 37; (with_reducible refine (KD2 g _ ?_).mono ?_); (first | assumption | exact Jn.drew (by assumption)); rintro e w' ⟨rfl, hJ, d0, d1, d2, d3, d4, d5, d6, d7, d8⟩)
      | (go_at_call 37; (with_reducible refine (KD3 g _ ?_).mono ?_); (first | assumption | exact Jn.drew (by assumption)); rintro e w' ⟨rfl, hJ, d0, d1, d2, d3, d4, d5, d6, d7, d8⟩)
      | (go_at_call 37; (with_reducible refine (KD4 g _ ?_).mono ?_); (first | assumption | exact Jn.drew (by assumption)); rintro e w' ⟨rfl, hJ, d0, d1, d2, d3, d4, d5, d6, d7, d8⟩))
  all_goals go_wp2_with fail
  all_goals go_ret
  all_goals exact ⟨by rw [tx, HE.out]; rfl, Jn.bw' (by assumption)⟩

set_option maxRecDepth 100000 in
set_option maxHeartbeats 20000000 in
theorem text_a_tt (i : Ins) (h : Rgt i) (haq : i.aq = true) (hrl : i.rl = true) (hk : srt i.op = 12) (w : World) : Calls Tryz.prog 36 #[insV i] w fun e w' => e = .returned (tx (textT i)) ∧ BW w w' := by
  have hs := srt_spec i.op
  have hop := h.op
  have ho : I64 i.op := ⟨by omega, by omega⟩
  have hrd := h.rd
  have hr1 := h.rs1
  have hr2 := h.rs2
  have hI := imm_I64 h
  have hA := h.at1
  have hF := h.fen
  obtain ⟨op, rd, rs1, rs2, imm, aq, rl, pred, succ⟩ := i
  simp only at hs hop ho hrd hr1 hr2 hI hA hF hk
  simp only at haq hrl
  subst haq
  subst hrl
  clear h
  have hT : textT ⟨op, rd, rs1, rs2, imm, true, true, pred, succ⟩ = nmO op ++ annT true true ++ ([32] ++ regT rd ++ [44, 32] ++ regT rs2 ++ [44, 32, 40] ++ regT rs1 ++ [41]) := by
    unfold textT tailT cmS
    simp only
    rw [if_neg (by omega), if_neg (by omega), if_neg (by omega), if_neg (by omega), if_neg (by omega), if_neg (by omega), if_neg (by omega), if_neg (by omega), if_pos (by omega)]
    try simp only [List.append_assoc, List.cons_append, List.nil_append]
  have HJ0 : Jn w ⟨op, rd, rs1, rs2, imm, true, true, pred, succ⟩ w.heap.size (w.alloc (.cells (insCells ⟨op, rd, rs1, rs2, imm, true, true, pred, succ⟩) 40)) := ⟨BW.new (Below.refl _ _) _, Blk.new _ _ _, Nat.le_refl _⟩
  have KS := fun g w1 (h : Jn w ⟨op, rd, rs1, rs2, imm, true, true, pred, succ⟩ g w1) => (rsort_any op ho.1 ho.2 w1).mono fun e w' (hh : _ ∧ _) => And.intro hh.1 (h.on hh.2)
  have KN := fun g w1 (h : Jn w ⟨op, rd, rs1, rs2, imm, true, true, pred, succ⟩ g w1) => (rname_any op ho.1 ho.2 w1).mono fun e w' (hh : _ ∧ _) => And.intro hh.1 (h.on hh.2)
  rw [hk] at KS
  have n3 : (op == 3) = false := by rw [beq_eq_false_iff_ne]; omega
  have n50 : (op == 50) = false := by rw [beq_eq_false_iff_ne]; omega
  have KD1 := fun g w1 (h : Jn w ⟨op, rd, rs1, rs2, imm, true, true, pred, succ⟩ g w1) => (rdigits_any rd (by unfold I64; omega) w1).mono fun e w' (hh : _ ∧ _) => And.intro hh.1 (And.intro (h.on hh.2) (h.on hh.2).cells)
  have KD2 := fun g w1 (h : Jn w ⟨op, rd, rs1, rs2, imm, true, true, pred, succ⟩ g w1) => (rdigits_any rs1 (by unfold I64; omega) w1).mono fun e w' (hh : _ ∧ _) => And.intro hh.1 (And.intro (h.on hh.2) (h.on hh.2).cells)
  have KD3 := fun g w1 (h : Jn w ⟨op, rd, rs1, rs2, imm, true, true, pred, succ⟩ g w1) => (rdigits_any rs2 (by unfold I64; omega) w1).mono fun e w' (hh : _ ∧ _) => And.intro hh.1 (And.intro (h.on hh.2) (h.on hh.2).cells)
  have KD4 := fun g w1 (h : Jn w ⟨op, rd, rs1, rs2, imm, true, true, pred, succ⟩ g w1) => (rdigits_any imm (hI) w1).mono fun e w' (hh : _ ∧ _) => And.intro hh.1 (And.intro (h.on hh.2) (h.on hh.2).cells)
  have l1 := regT_len hrd
  have l2 := regT_len hr1
  have l3 := regT_len hr2
  have l4 := digI_len hI
  have x1 : ∀ w2 : World, (Op.stringOp .add (⟨#[120]⟩ : ByteArray) (bs (digI rd))).run Tryz.prog w2 = .ok (.string (bs (regT rd))) w2 := fun w2 => cat [120] (digI rd) (by simp) (by unfold regT at l1; simp at l1; omega) w2
  have x2 : ∀ w2 : World, (Op.stringOp .add (⟨#[120]⟩ : ByteArray) (bs (digI rs1))).run Tryz.prog w2 = .ok (.string (bs (regT rs1))) w2 := fun w2 => cat [120] (digI rs1) (by simp) (by unfold regT at l2; simp at l2; omega) w2
  have x3 : ∀ w2 : World, (Op.stringOp .add (⟨#[120]⟩ : ByteArray) (bs (digI rs2))).run Tryz.prog w2 = .ok (.string (bs (regT rs2))) w2 := fun w2 => cat [120] (digI rs2) (by simp) (by unfold regT at l3; simp at l3; omega) w2
  have l0 := nmO_len op
  have HT := Lib.hid hT
  clear hT hA hF hs hop ho
  obtain ⟨S, hS⟩ : ∃ S, nmO op = S := ⟨_, rfl⟩
  rw [hS] at KN HT l0
  clear hS
  unfold tx at KN KD1 KD2 KD3 KD4
  generalize digI rd = D1 at KD1 x1
  obtain ⟨R1, hR1⟩ : ∃ R, regT rd = R := ⟨_, rfl⟩
  rw [hR1] at l1 x1
  generalize digI rs1 = D2 at KD2 x2
  obtain ⟨R2, hR2⟩ : ∃ R, regT rs1 = R := ⟨_, rfl⟩
  rw [hR2] at l2 x2
  generalize digI rs2 = D3 at KD3 x3
  obtain ⟨R3, hR3⟩ : ∃ R, regT rs2 = R := ⟨_, rfl⟩
  rw [hR3] at l3 x3
  obtain ⟨D4, hD4⟩ : ∃ R, digI imm = R := ⟨_, rfl⟩
  rw [hD4] at l4 KD4
  have HT : Hid (textT ⟨op, rd, rs1, rs2, imm, true, true, pred, succ⟩ = S ++ annT true true ++ ([32] ++ R1 ++ [44, 32] ++ R3 ++ [44, 32, 40] ++ R2 ++ [41])) := by have := HT.out; rw [hR1, hR3, hR2] at this; exact this
  clear hR1 hR2 hR3 hD4
  obtain ⟨Z, hZ⟩ : ∃ Z, S ++ annT true true = Z := ⟨_, rfl⟩
  have lz : Z.length ≤ 20 := by rw [← hZ]; simp [annT] <;> omega
  rw [hZ] at HT
  have f0 : ∀ w2 : World, (Op.stringOp .add (bs Z) (⟨#[32]⟩ : ByteArray)).run Tryz.prog w2 = .ok (.string (bs (Z ++ [32]))) w2 := fun w2 => cat Z [32] (by first | omega | (simp; omega)) (by first | omega | simp) w2
  have f1 : ∀ w2 : World, (Op.stringOp .add (bs (Z ++ [32])) (bs R1)).run Tryz.prog w2 = .ok (.string (bs (Z ++ [32] ++ R1))) w2 := fun w2 => cat (Z ++ [32]) R1 (by first | omega | (simp; omega)) (by omega) w2
  have f2 : ∀ w2 : World, (Op.stringOp .add (bs (Z ++ [32] ++ R1)) (⟨#[44, 32]⟩ : ByteArray)).run Tryz.prog w2 = .ok (.string (bs (Z ++ [32] ++ R1 ++ [44, 32]))) w2 := fun w2 => cat (Z ++ [32] ++ R1) [44, 32] (by first | omega | (simp; omega)) (by first | omega | simp) w2
  have f3 : ∀ w2 : World, (Op.stringOp .add (bs (Z ++ [32] ++ R1 ++ [44, 32])) (bs R3)).run Tryz.prog w2 = .ok (.string (bs (Z ++ [32] ++ R1 ++ [44, 32] ++ R3))) w2 := fun w2 => cat (Z ++ [32] ++ R1 ++ [44, 32]) R3 (by first | omega | (simp; omega)) (by omega) w2
  have f4 : ∀ w2 : World, (Op.stringOp .add (bs (Z ++ [32] ++ R1 ++ [44, 32] ++ R3)) (⟨#[44, 32, 40]⟩ : ByteArray)).run Tryz.prog w2 = .ok (.string (bs (Z ++ [32] ++ R1 ++ [44, 32] ++ R3 ++ [44, 32, 40]))) w2 := fun w2 => cat (Z ++ [32] ++ R1 ++ [44, 32] ++ R3) [44, 32, 40] (by first | omega | (simp; omega)) (by first | omega | simp) w2
  have f5 : ∀ w2 : World, (Op.stringOp .add (bs (Z ++ [32] ++ R1 ++ [44, 32] ++ R3 ++ [44, 32, 40])) (bs R2)).run Tryz.prog w2 = .ok (.string (bs (Z ++ [32] ++ R1 ++ [44, 32] ++ R3 ++ [44, 32, 40] ++ R2))) w2 := fun w2 => cat (Z ++ [32] ++ R1 ++ [44, 32] ++ R3 ++ [44, 32, 40]) R2 (by first | omega | (simp; omega)) (by omega) w2
  have f6 : ∀ w2 : World, (Op.stringOp .add (bs (Z ++ [32] ++ R1 ++ [44, 32] ++ R3 ++ [44, 32, 40] ++ R2)) (⟨#[41]⟩ : ByteArray)).run Tryz.prog w2 = .ok (.string (bs (Z ++ [32] ++ R1 ++ [44, 32] ++ R3 ++ [44, 32, 40] ++ R2 ++ [41]))) w2 := fun w2 => cat (Z ++ [32] ++ R1 ++ [44, 32] ++ R3 ++ [44, 32, 40] ++ R2) [41] (by first | omega | (simp; omega)) (by first | omega | simp) w2
  have hE : bs (textT ⟨op, rd, rs1, rs2, imm, true, true, pred, succ⟩) = bs (Z ++ [32] ++ R1 ++ [44, 32] ++ R3 ++ [44, 32, 40] ++ R2 ++ [41]) := by rw [HT.out]; simp
  clear HT
  generalize bs (Z ++ [32] ++ R1 ++ [44, 32] ++ R3 ++ [44, 32, 40] ++ R2 ++ [41]) = q6 at f6 hE
  generalize bs (Z ++ [32] ++ R1 ++ [44, 32] ++ R3 ++ [44, 32, 40] ++ R2) = q5 at f5 f6
  generalize bs (Z ++ [32] ++ R1 ++ [44, 32] ++ R3 ++ [44, 32, 40]) = q4 at f4 f5
  generalize bs (Z ++ [32] ++ R1 ++ [44, 32] ++ R3) = q3 at f3 f4
  generalize bs (Z ++ [32] ++ R1 ++ [44, 32]) = q2 at f2 f3
  generalize bs (Z ++ [32] ++ R1) = q1 at f1 f2
  generalize bs (Z ++ [32]) = q0 at f0 f1
  have HE := Lib.hid hE
  clear hE
  have a1 : ∀ w2 : World, (Op.stringOp .add (bs S) (⟨#[46]⟩ : ByteArray)).run Tryz.prog w2 = .ok (.string (bs (S ++ [46]))) w2 := fun w2 => cat S [46] (by omega) (by simp) w2
  have a2 : ∀ w2 : World, (Op.stringOp .add (bs (S ++ [46])) (⟨#[97, 113]⟩ : ByteArray)).run Tryz.prog w2 = .ok (.string (bs (S ++ [46] ++ [97, 113]))) w2 := fun w2 => cat (S ++ [46]) [97, 113] (by simp; omega) (by simp) w2
  have a3 : ∀ w2 : World, (Op.stringOp .add (bs (S ++ [46])) (⟨#[114, 108]⟩ : ByteArray)).run Tryz.prog w2 = .ok (.string (bs (S ++ [46] ++ [114, 108]))) w2 := fun w2 => cat (S ++ [46]) [114, 108] (by simp; omega) (by simp) w2
  have a4 : ∀ w2 : World, (Op.stringOp .add (bs (S ++ [46] ++ [97, 113])) (⟨#[114, 108]⟩ : ByteArray)).run Tryz.prog w2 = .ok (.string (bs (S ++ [46] ++ [97, 113] ++ [114, 108]))) w2 := fun w2 => cat (S ++ [46] ++ [97, 113]) [114, 108] (by simp; omega) (by simp) w2
  have z1 : annT false false = [] := rfl
  have z2 : S ++ annT true false = S ++ [46] ++ [97, 113] := by simp [annT]
  have z3 : S ++ annT false true = S ++ [46] ++ [114, 108] := by simp [annT]
  have z4 : S ++ annT true true = S ++ [46] ++ [97, 113] ++ [114, 108] := by simp [annT]
  clear l0 l1 l2 l3 l4 lz
  first
    | (rw [z1, List.append_nil] at hZ)
    | (rw [z2] at hZ)
    | (rw [z3] at hZ)
    | (rw [z4] at hZ)
  clear z1 z2 z3 z4
  try rw [hZ] at a2
  try rw [hZ] at a3
  try rw [hZ] at a4
  try rw [hZ] at a1 KN
  clear hZ
  try generalize bs (S ++ [46] ++ [97, 113]) = qa at *
  try generalize bs (S ++ [46] ++ [114, 108]) = qb at *
  try generalize bs (S ++ [46]) = qc at *
  unfold insV
  unfold insCells at HJ0
  go_enter Tryz.func36, Tryz.ntmps36
  go_upto_region 1 with (fail)
  generalize w.alloc (.cells _ 40) = w1 at *
  obtain ⟨g, hg⟩ : ∃ g, w.heap.size = g := ⟨_, rfl⟩
  rw [hg] at HJ0 ⊢
  have HG := Lib.hid hg
  clear hg
  obtain ⟨c0, c1, c2, c3, c4, c5, c6, c7, c8⟩ := HJ0.cells
  go_upto_region 2 with (first
    | (go_at_call 46; refine (KS g _ HJ0).mono ?_; rintro e w2 ⟨rfl, HJ1⟩))
  clear c0 c1 c2 c3 c4 c5 c6 c7 c8 HJ0
  obtain ⟨c0, c1, c2, c3, c4, c5, c6, c7, c8⟩ := HJ1.cells
  go_upto_region 3 with (first
    | (go_at_call 58; refine (KN g _ HJ1).mono ?_; rintro e w3 ⟨rfl, HJ2⟩))
  clear c0 c1 c2 c3 c4 c5 c6 c7 c8 HJ1
  obtain ⟨c0, c1, c2, c3, c4, c5, c6, c7, c8⟩ := HJ2.cells
  go_upto_region 9 with fail
  clear c5 c6 KS KN
  clear a1 a2 a3 a4
  go_region_held3 (fun w' => Jn w ⟨op, rd, rs1, rs2, imm, true, true, pred, succ⟩ g w' ∧ w'.cell? ⟨g, 0, none⟩ = some (.int .i64 op) ∧ w'.cell? ⟨g, 1, none⟩ = some (.int .i64 rd) ∧ w'.cell? ⟨g, 2, none⟩ = some (.int .i64 rs1) ∧ w'.cell? ⟨g, 3, none⟩ = some (.int .i64 rs2) ∧ w'.cell? ⟨g, 4, none⟩ = some (.int .i64 imm) ∧ w'.cell? ⟨g, 7, none⟩ = some (.int .i64 pred) ∧ w'.cell? ⟨g, 8, none⟩ = some (.int .i64 succ))
    (first | (exact ⟨by assumption, by assumption, by assumption, by assumption, by assumption, by assumption, by assumption, by assumption⟩) | (exact ⟨Jn.drew (by assumption), by assumption, by assumption, by assumption, by assumption, by assumption, by assumption, by assumption⟩))
    (first
      | (go_at_call 37; (with_reducible refine (KD1 g _ ?_).mono ?_); (first | assumption | exact Jn.drew (by assumption)); rintro e w' ⟨rfl, hJ, d0, d1, d2, d3, d4, d5, d6, d7, d8⟩)
      | (go_at_call 37; (with_reducible refine (KD2 g _ ?_).mono ?_); (first | assumption | exact Jn.drew (by assumption)); rintro e w' ⟨rfl, hJ, d0, d1, d2, d3, d4, d5, d6, d7, d8⟩)
      | (go_at_call 37; (with_reducible refine (KD3 g _ ?_).mono ?_); (first | assumption | exact Jn.drew (by assumption)); rintro e w' ⟨rfl, hJ, d0, d1, d2, d3, d4, d5, d6, d7, d8⟩)
      | (go_at_call 37; (with_reducible refine (KD4 g _ ?_).mono ?_); (first | assumption | exact Jn.drew (by assumption)); rintro e w' ⟨rfl, hJ, d0, d1, d2, d3, d4, d5, d6, d7, d8⟩))
  all_goals go_wp2_with fail
  all_goals go_ret
  all_goals exact ⟨by rw [tx, HE.out]; rfl, Jn.bw' (by assumption)⟩

theorem text_a (i : Ins) (h : Rgt i) (hk : srt i.op = 12) (w : World) : Calls Tryz.prog 36 #[insV i] w fun e w' => e = .returned (tx (textT i)) ∧ BW w w' := by
  cases ha : i.aq <;> cases hl : i.rl
  · exact text_a_ff i h ha hl hk w
  · exact text_a_ft i h ha hl hk w
  · exact text_a_tf i h ha hl hk w
  · exact text_a_tt i h ha hl hk w
end Go.Proofs.YtolmecnjolfjgaaGreatDoor
