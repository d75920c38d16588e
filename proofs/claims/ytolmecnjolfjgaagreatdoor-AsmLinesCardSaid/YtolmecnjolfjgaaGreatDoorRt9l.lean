/- The document's Text, class by class: what isn't annotated. (Written by a program.) -/
import Derived.Test.YtolmecnjolfjgaaGreatDoorRows
import Derived.Test.YtolmecnjolfjgaaGreatDoorRdl
import Derived.WalkKit
import Derived.WalkLawsBesides
import Derived.Deep.QuietTactic
import Derived.BigQuiet
import Derived.WalkSmall
import Derived.WalkSpells
import Derived.Lib.Hide
import Derived.Below
import Derived.LoopTactic
import Derived.Outline
import Derived.Deep.RegionHeld3
import Derived.Deep.DeepCutAuto
set_option maxRecDepth 100000
namespace Go.Proofs.YtolmecnjolfjgaaGreatDoor
open Go.RowKit

set_option maxRecDepth 100000 in
set_option maxHeartbeats 20000000 in
theorem text_u (i : Ins) (h : Rgt i) (hk : srt i.op = 1) (w : World) : Calls Tryz.prog 36 #[insV i] w fun e w' => e = .returned (tx (textT i)) ∧ BW w w' := by
  have hs := srt_spec i.op
  have hop := h.op
  have ho : I64 i.op := ⟨by omega, by omega⟩
  have hrd := h.rd
  have hr1 := h.rs1
  have hr2 := h.rs2
  have hI := imm_I64 h
  have hA := h.at1
  have hF := h.fen
  obtain ⟨op, rd, rs1, rs2, imm, aq, rl, pred, succ⟩ := i
  simp only at hs hop ho hrd hr1 hr2 hI hA hF hk
  clear h
  have hT : textT ⟨op, rd, rs1, rs2, imm, aq, rl, pred, succ⟩ = nmO op ++ annT aq rl ++ ([32] ++ regT rd ++ [44, 32] ++ digI imm) := by
    unfold textT tailT cmS
    simp only
    rw [if_pos (by omega)]
    try simp only [List.append_assoc, List.cons_append, List.nil_append]
  obtain ⟨rfl, rfl⟩ := hA (by omega)
  have HJ0 : Jn w ⟨op, rd, rs1, rs2, imm, false, false, pred, succ⟩ w.heap.size (w.alloc (.cells (insCells ⟨op, rd, rs1, rs2, imm, false, false, pred, succ⟩) 40)) := ⟨BW.new (Below.refl _ _) _, Blk.new _ _ _, Nat.le_refl _⟩
  have KS := fun g w1 (h : Jn w ⟨op, rd, rs1, rs2, imm, false, false, pred, succ⟩ g w1) => (rsort_any op ho.1 ho.2 w1).mono fun e w' (hh : _ ∧ _) => And.intro hh.1 (h.on hh.2)
  have KN := fun g w1 (h : Jn w ⟨op, rd, rs1, rs2, imm, false, false, pred, succ⟩ g w1) => (rname_any op ho.1 ho.2 w1).mono fun e w' (hh : _ ∧ _) => And.intro hh.1 (h.on hh.2)
  rw [hk] at KS
  have n3 : (op == 3) = false := by rw [beq_eq_false_iff_ne]; omega
  have n50 : (op == 50) = false := by rw [beq_eq_false_iff_ne]; omega
  have KD1 := fun g w1 (h : Jn w ⟨op, rd, rs1, rs2, imm, false, false, pred, succ⟩ g w1) => (rdigits_any rd (by unfold I64; omega) w1).mono fun e w' (hh : _ ∧ _) => And.intro hh.1 (And.intro (h.on hh.2) (h.on hh.2).cells)
  have KD2 := fun g w1 (h : Jn w ⟨op, rd, rs1, rs2, imm, false, false, pred, succ⟩ g w1) => (rdigits_any rs1 (by unfold I64; omega) w1).mono fun e w' (hh : _ ∧ _) => And.intro hh.1 (And.intro (h.on hh.2) (h.on hh.2).cells)
  have KD3 := fun g w1 (h : Jn w ⟨op, rd, rs1, rs2, imm, false, false, pred, succ⟩ g w1) => (rdigits_any rs2 (by unfold I64; omega) w1).mono fun e w' (hh : _ ∧ _) => And.intro hh.1 (And.intro (h.on hh.2) (h.on hh.2).cells)
  have KD4 := fun g w1 (h : Jn w ⟨op, rd, rs1, rs2, imm, false, false, pred, succ⟩ g w1) => (rdigits_any imm (hI) w1).mono fun e w' (hh : _ ∧ _) => And.intro hh.1 (And.intro (h.on hh.2) (h.on hh.2).cells)
  have l1 := regT_len hrd
  have l2 := regT_len hr1
  have l3 := regT_len hr2
  have l4 := digI_len hI
  have x1 : ∀ w2 : World, (Op.stringOp .add (⟨#[120]⟩ : ByteArray) (bs (digI rd))).run Tryz.prog w2 = .ok (.string (bs (regT rd))) w2 := fun w2 => cat [120] (digI rd) (by simp) (by unfold regT at l1; simp at l1; omega) w2
  have x2 : ∀ w2 : World, (Op.stringOp .add (⟨#[120]⟩ : ByteArray) (bs (digI rs1))).run Tryz.prog w2 = .ok (.string (bs (regT rs1))) w2 := fun w2 => cat [120] (digI rs1) (by simp) (by unfold regT at l2; simp at l2; omega) w2
  have x3 : ∀ w2 : World, (Op.stringOp .add (⟨#[120]⟩ : ByteArray) (bs (digI rs2))).run Tryz.prog w2 = .ok (.string (bs (regT rs2))) w2 := fun w2 => cat [120] (digI rs2) (by simp) (by unfold regT at l3; simp at l3; omega) w2
  have l0 := nmO_len op
  have HT := Lib.hid hT
  clear hT hA hF hs hop ho
  obtain ⟨S, hS⟩ : ∃ S, nmO op = S := ⟨_, rfl⟩
  rw [hS] at KN HT l0
  clear hS
  unfold tx at KN KD1 KD2 KD3 KD4
  generalize digI rd = D1 at KD1 x1
  obtain ⟨R1, hR1⟩ : ∃ R, regT rd = R := ⟨_, rfl⟩
  rw [hR1] at l1 x1
  generalize digI rs1 = D2 at KD2 x2
  obtain ⟨R2, hR2⟩ : ∃ R, regT rs1 = R := ⟨_, rfl⟩
  rw [hR2] at l2 x2
  generalize digI rs2 = D3 at KD3 x3
  obtain ⟨R3, hR3⟩ : ∃ R, regT rs2 = R := ⟨_, rfl⟩
  rw [hR3] at l3 x3
  obtain ⟨D4, hD4⟩ : ∃ R, digI imm = R := ⟨_, rfl⟩
  rw [hD4] at l4 KD4
  have HT : Hid (textT ⟨op, rd, rs1, rs2, imm, false, false, pred, succ⟩ = S ++ annT false false ++ ([32] ++ R1 ++ [44, 32] ++ D4)) := by have := HT.out; rw [hR1, hD4] at this; exact this
  clear hR1 hR2 hR3 hD4
  have HT : Hid (textT ⟨op, rd, rs1, rs2, imm, false, false, pred, succ⟩ = S ++ ([32] ++ R1 ++ [44, 32] ++ D4)) := by have := HT.out; rw [show annT false false = [] from rfl, List.append_nil] at this; exact this
  have f0 : ∀ w2 : World, (Op.stringOp .add (bs S) (⟨#[32]⟩ : ByteArray)).run Tryz.prog w2 = .ok (.string (bs (S ++ [32]))) w2 := fun w2 => cat S [32] (by first | omega | (simp; omega)) (by first | omega | simp) w2
  have f1 : ∀ w2 : World, (Op.stringOp .add (bs (S ++ [32])) (bs R1)).run Tryz.prog w2 = .ok (.string (bs (S ++ [32] ++ R1))) w2 := fun w2 => cat (S ++ [32]) R1 (by first | omega | (simp; omega)) (by omega) w2
  have f2 : ∀ w2 : World, (Op.stringOp .add (bs (S ++ [32] ++ R1)) (⟨#[44, 32]⟩ : ByteArray)).run Tryz.prog w2 = .ok (.string (bs (S ++ [32] ++ R1 ++ [44, 32]))) w2 := fun w2 => cat (S ++ [32] ++ R1) [44, 32] (by first | omega | (simp; omega)) (by first | omega | simp) w2
  have f3 : ∀ w2 : World, (Op.stringOp .add (bs (S ++ [32] ++ R1 ++ [44, 32])) (bs D4)).run Tryz.prog w2 = .ok (.string (bs (S ++ [32] ++ R1 ++ [44, 32] ++ D4))) w2 := fun w2 => cat (S ++ [32] ++ R1 ++ [44, 32]) D4 (by first | omega | (simp; omega)) (by omega) w2
  have hE : bs (textT ⟨op, rd, rs1, rs2, imm, false, false, pred, succ⟩) = bs (S ++ [32] ++ R1 ++ [44, 32] ++ D4) := by rw [HT.out]; simp
  clear HT
  generalize bs (S ++ [32] ++ R1 ++ [44, 32] ++ D4) = q3 at f3 hE
  generalize bs (S ++ [32] ++ R1 ++ [44, 32]) = q2 at f2 f3
  generalize bs (S ++ [32] ++ R1) = q1 at f1 f2
  generalize bs (S ++ [32]) = q0 at f0 f1
  have HE := Lib.hid hE
  clear hE
  clear l0 l1 l2 l3 l4
  unfold insV
  unfold insCells at HJ0
  go_enter Tryz.func36, Tryz.ntmps36
  go_upto_region 1 with (fail)
  generalize w.alloc (.cells _ 40) = w1 at *
  obtain ⟨g, hg⟩ : ∃ g, w.heap.size = g := ⟨_, rfl⟩
  rw [hg] at HJ0 ⊢
  have HG := Lib.hid hg
  clear hg
  obtain ⟨c0, c1, c2, c3, c4, c5, c6, c7, c8⟩ := HJ0.cells
  go_upto_region 2 with (first
    | (go_at_call 46; refine (KS g _ HJ0).mono ?_; rintro e w2 ⟨rfl, HJ1⟩))
  clear c0 c1 c2 c3 c4 c5 c6 c7 c8 HJ0
  obtain ⟨c0, c1, c2, c3, c4, c5, c6, c7, c8⟩ := HJ1.cells
  go_upto_region 3 with (first
    | (go_at_call 58; refine (KN g _ HJ1).mono ?_; rintro e w3 ⟨rfl, HJ2⟩))
  clear c0 c1 c2 c3 c4 c5 c6 c7 c8 HJ1
  obtain ⟨c0, c1, c2, c3, c4, c5, c6, c7, c8⟩ := HJ2.cells
  go_upto_region 9 with fail
  clear c5 c6 KS KN
  go_region_held3 (fun w' => Jn w ⟨op, rd, rs1, rs2, imm, false, false, pred, succ⟩ g w' ∧ w'.cell? ⟨g, 0, none⟩ = some (.int .i64 op) ∧ w'.cell? ⟨g, 1, none⟩ = some (.int .i64 rd) ∧ w'.cell? ⟨g, 2, none⟩ = some (.int .i64 rs1) ∧ w'.cell? ⟨g, 3, none⟩ = some (.int .i64 rs2) ∧ w'.cell? ⟨g, 4, none⟩ = some (.int .i64 imm) ∧ w'.cell? ⟨g, 7, none⟩ = some (.int .i64 pred) ∧ w'.cell? ⟨g, 8, none⟩ = some (.int .i64 succ))
    (first | (exact ⟨by assumption, by assumption, by assumption, by assumption, by assumption, by assumption, by assumption, by assumption⟩) | (exact ⟨Jn.drew (by assumption), by assumption, by assumption, by assumption, by assumption, by assumption, by assumption, by assumption⟩))
    (first
      | (go_at_call 37; (with_reducible refine (KD1 g _ ?_).mono ?_); (first | assumption | exact Jn.drew (by assumption)); rintro e w' ⟨rfl, hJ, d0, d1, d2, d3, d4, d5, d6, d7, d8⟩)
      | (go_at_call 37; (with_reducible refine (KD2 g _ ?_).mono ?_); (first | assumption | exact Jn.drew (by assumption)); rintro e w' ⟨rfl, hJ, d0, d1, d2, d3, d4, d5, d6, d7, d8⟩)
      | (go_at_call 37; (with_reducible refine (KD3 g _ ?_).mono ?_); (first | assumption | exact Jn.drew (by assumption)); rintro e w' ⟨rfl, hJ, d0, d1, d2, d3, d4, d5, d6, d7, d8⟩)
      | (go_at_call 37; (with_reducible refine (KD4 g _ ?_).mono ?_); (first | assumption | exact Jn.drew (by assumption)); rintro e w' ⟨rfl, hJ, d0, d1, d2, d3, d4, d5, d6, d7, d8⟩))
  all_goals go_wp2_with fail
  all_goals go_ret
  all_goals exact ⟨by rw [tx, HE.out]; rfl, Jn.bw' (by assumption)⟩

set_option maxRecDepth 100000 in
set_option maxHeartbeats 20000000 in
theorem text_j (i : Ins) (h : Rgt i) (hk : i.op = 3) (w : World) : Calls Tryz.prog 36 #[insV i] w fun e w' => e = .returned (tx (textT i)) ∧ BW w w' := by
  have hs := srt_spec i.op
  have hop := h.op
  have ho : I64 i.op := ⟨by omega, by omega⟩
  have hrd := h.rd
  have hr1 := h.rs1
  have hr2 := h.rs2
  have hI := imm_I64 h
  have hA := h.at1
  have hF := h.fen
  obtain ⟨op, rd, rs1, rs2, imm, aq, rl, pred, succ⟩ := i
  simp only at hs hop ho hrd hr1 hr2 hI hA hF hk
  clear h
  have hT : textT ⟨op, rd, rs1, rs2, imm, aq, rl, pred, succ⟩ = nmO op ++ annT aq rl ++ ([32] ++ regT rd ++ [44, 32] ++ digI imm) := by
    unfold textT tailT cmS
    simp only
    rw [if_pos (by omega)]
    try simp only [List.append_assoc, List.cons_append, List.nil_append]
  obtain ⟨rfl, rfl⟩ := hA (by omega)
  have HJ0 : Jn w ⟨op, rd, rs1, rs2, imm, false, false, pred, succ⟩ w.heap.size (w.alloc (.cells (insCells ⟨op, rd, rs1, rs2, imm, false, false, pred, succ⟩) 40)) := ⟨BW.new (Below.refl _ _) _, Blk.new _ _ _, Nat.le_refl _⟩
  have KS := fun g w1 (h : Jn w ⟨op, rd, rs1, rs2, imm, false, false, pred, succ⟩ g w1) => (rsort_any op ho.1 ho.2 w1).mono fun e w' (hh : _ ∧ _) => And.intro hh.1 (h.on hh.2)
  have KN := fun g w1 (h : Jn w ⟨op, rd, rs1, rs2, imm, false, false, pred, succ⟩ g w1) => (rname_any op ho.1 ho.2 w1).mono fun e w' (hh : _ ∧ _) => And.intro hh.1 (h.on hh.2)
  subst hk
  have hsk : srt 3 = 2 := by decide
  rw [hsk] at KS
  have KD1 := fun g w1 (h : Jn w ⟨3, rd, rs1, rs2, imm, false, false, pred, succ⟩ g w1) => (rdigits_any rd (by unfold I64; omega) w1).mono fun e w' (hh : _ ∧ _) => And.intro hh.1 (And.intro (h.on hh.2) (h.on hh.2).cells)
  have KD2 := fun g w1 (h : Jn w ⟨3, rd, rs1, rs2, imm, false, false, pred, succ⟩ g w1) => (rdigits_any rs1 (by unfold I64; omega) w1).mono fun e w' (hh : _ ∧ _) => And.intro hh.1 (And.intro (h.on hh.2) (h.on hh.2).cells)
  have KD3 := fun g w1 (h : Jn w ⟨3, rd, rs1, rs2, imm, false, false, pred, succ⟩ g w1) => (rdigits_any rs2 (by unfold I64; omega) w1).mono fun e w' (hh : _ ∧ _) => And.intro hh.1 (And.intro (h.on hh.2) (h.on hh.2).cells)
  have KD4 := fun g w1 (h : Jn w ⟨3, rd, rs1, rs2, imm, false, false, pred, succ⟩ g w1) => (rdigits_any imm (hI) w1).mono fun e w' (hh : _ ∧ _) => And.intro hh.1 (And.intro (h.on hh.2) (h.on hh.2).cells)
  have l1 := regT_len hrd
  have l2 := regT_len hr1
  have l3 := regT_len hr2
  have l4 := digI_len hI
  have x1 : ∀ w2 : World, (Op.stringOp .add (⟨#[120]⟩ : ByteArray) (bs (digI rd))).run Tryz.prog w2 = .ok (.string (bs (regT rd))) w2 := fun w2 => cat [120] (digI rd) (by simp) (by unfold regT at l1; simp at l1; omega) w2
  have x2 : ∀ w2 : World, (Op.stringOp .add (⟨#[120]⟩ : ByteArray) (bs (digI rs1))).run Tryz.prog w2 = .ok (.string (bs (regT rs1))) w2 := fun w2 => cat [120] (digI rs1) (by simp) (by unfold regT at l2; simp at l2; omega) w2
  have x3 : ∀ w2 : World, (Op.stringOp .add (⟨#[120]⟩ : ByteArray) (bs (digI rs2))).run Tryz.prog w2 = .ok (.string (bs (regT rs2))) w2 := fun w2 => cat [120] (digI rs2) (by simp) (by unfold regT at l3; simp at l3; omega) w2
  have l0 := nmO_len 3
  have HT := Lib.hid hT
  clear hT hA hF hs hop ho
  obtain ⟨S, hS⟩ : ∃ S, nmO 3 = S := ⟨_, rfl⟩
  rw [hS] at KN HT l0
  clear hS
  unfold tx at KN KD1 KD2 KD3 KD4
  generalize digI rd = D1 at KD1 x1
  obtain ⟨R1, hR1⟩ : ∃ R, regT rd = R := ⟨_, rfl⟩
  rw [hR1] at l1 x1
  generalize digI rs1 = D2 at KD2 x2
  obtain ⟨R2, hR2⟩ : ∃ R, regT rs1 = R := ⟨_, rfl⟩
  rw [hR2] at l2 x2
  generalize digI rs2 = D3 at KD3 x3
  obtain ⟨R3, hR3⟩ : ∃ R, regT rs2 = R := ⟨_, rfl⟩
  rw [hR3] at l3 x3
  obtain ⟨D4, hD4⟩ : ∃ R, digI imm = R := ⟨_, rfl⟩
  rw [hD4] at l4 KD4
  have HT : Hid (textT ⟨3, rd, rs1, rs2, imm, false, false, pred, succ⟩ = S ++ annT false false ++ ([32] ++ R1 ++ [44, 32] ++ D4)) := by have := HT.out; rw [hR1, hD4] at this; exact this
  clear hR1 hR2 hR3 hD4
  have HT : Hid (textT ⟨3, rd, rs1, rs2, imm, false, false, pred, succ⟩ = S ++ ([32] ++ R1 ++ [44, 32] ++ D4)) := by have := HT.out; rw [show annT false false = [] from rfl, List.append_nil] at this; exact this
  have f0 : ∀ w2 : World, (Op.stringOp .add (bs S) (⟨#[32]⟩ : ByteArray)).run Tryz.prog w2 = .ok (.string (bs (S ++ [32]))) w2 := fun w2 => cat S [32] (by first | omega | (simp; omega)) (by first | omega | simp) w2
  have f1 : ∀ w2 : World, (Op.stringOp .add (bs (S ++ [32])) (bs R1)).run Tryz.prog w2 = .ok (.string (bs (S ++ [32] ++ R1))) w2 := fun w2 => cat (S ++ [32]) R1 (by first | omega | (simp; omega)) (by omega) w2
  have f2 : ∀ w2 : World, (Op.stringOp .add (bs (S ++ [32] ++ R1)) (⟨#[44, 32]⟩ : ByteArray)).run Tryz.prog w2 = .ok (.string (bs (S ++ [32] ++ R1 ++ [44, 32]))) w2 := fun w2 => cat (S ++ [32] ++ R1) [44, 32] (by first | omega | (simp; omega)) (by first | omega | simp) w2
  have f3 : ∀ w2 : World, (Op.stringOp .add (bs (S ++ [32] ++ R1 ++ [44, 32])) (bs D4)).run Tryz.prog w2 = .ok (.string (bs (S ++ [32] ++ R1 ++ [44, 32] ++ D4))) w2 := fun w2 => cat (S ++ [32] ++ R1 ++ [44, 32]) D4 (by first | omega | (simp; omega)) (by omega) w2
  have hE : bs (textT ⟨3, rd, rs1, rs2, imm, false, false, pred, succ⟩) = bs (S ++ [32] ++ R1 ++ [44, 32] ++ D4) := by rw [HT.out]; simp
  clear HT
  generalize bs (S ++ [32] ++ R1 ++ [44, 32] ++ D4) = q3 at f3 hE
  generalize bs (S ++ [32] ++ R1 ++ [44, 32]) = q2 at f2 f3
  generalize bs (S ++ [32] ++ R1) = q1 at f1 f2
  generalize bs (S ++ [32]) = q0 at f0 f1
  have HE := Lib.hid hE
  clear hE
  clear l0 l1 l2 l3 l4
  unfold insV
  unfold insCells at HJ0
  go_enter Tryz.func36, Tryz.ntmps36
  go_upto_region 1 with (fail)
  generalize w.alloc (.cells _ 40) = w1 at *
  obtain ⟨g, hg⟩ : ∃ g, w.heap.size = g := ⟨_, rfl⟩
  rw [hg] at HJ0 ⊢
  have HG := Lib.hid hg
  clear hg
  obtain ⟨c0, c1, c2, c3, c4, c5, c6, c7, c8⟩ := HJ0.cells
  go_upto_region 2 with (first
    | (go_at_call 46; refine (KS g _ HJ0).mono ?_; rintro e w2 ⟨rfl, HJ1⟩))
  clear c0 c1 c2 c3 c4 c5 c6 c7 c8 HJ0
  obtain ⟨c0, c1, c2, c3, c4, c5, c6, c7, c8⟩ := HJ1.cells
  go_upto_region 3 with (first
    | (go_at_call 58; refine (KN g _ HJ1).mono ?_; rintro e w3 ⟨rfl, HJ2⟩))
  clear c0 c1 c2 c3 c4 c5 c6 c7 c8 HJ1
  obtain ⟨c0, c1, c2, c3, c4, c5, c6, c7, c8⟩ := HJ2.cells
  go_upto_region 9 with fail
  clear c5 c6 KS KN
  go_region_held3 (fun w' => Jn w ⟨3, rd, rs1, rs2, imm, false, false, pred, succ⟩ g w' ∧ w'.cell? ⟨g, 0, none⟩ = some (.int .i64 3) ∧ w'.cell? ⟨g, 1, none⟩ = some (.int .i64 rd) ∧ w'.cell? ⟨g, 2, none⟩ = some (.int .i64 rs1) ∧ w'.cell? ⟨g, 3, none⟩ = some (.int .i64 rs2) ∧ w'.cell? ⟨g, 4, none⟩ = some (.int .i64 imm) ∧ w'.cell? ⟨g, 7, none⟩ = some (.int .i64 pred) ∧ w'.cell? ⟨g, 8, none⟩ = some (.int .i64 succ))
    (first | (exact ⟨by assumption, by assumption, by assumption, by assumption, by assumption, by assumption, by assumption, by assumption⟩) | (exact ⟨Jn.drew (by assumption), by assumption, by assumption, by assumption, by assumption, by assumption, by assumption, by assumption⟩))
    (first
      | (go_at_call 37; (with_reducible refine (KD1 g _ ?_).mono ?_); (first | assumption | exact Jn.drew (by assumption)); rintro e w' ⟨rfl, hJ, d0, d1, d2, d3, d4, d5, d6, d7, d8⟩)
      | (go_at_call 37; (with_reducible refine (KD2 g _ ?_).mono ?_); (first | assumption | exact Jn.drew (by assumption)); rintro e w' ⟨rfl, hJ, d0, d1, d2, d3, d4, d5, d6, d7, d8⟩)
      | (go_at_call 37; (with_reducible refine (KD3 g _ ?_).mono ?_); (first | assumption | exact Jn.drew (by assumption)); rintro e w' ⟨rfl, hJ, d0, d1, d2, d3, d4, d5, d6, d7, d8⟩)
      | (go_at_call 37; (with_reducible refine (KD4 g _ ?_).mono ?_); (first | assumption | exact Jn.drew (by assumption)); rintro e w' ⟨rfl, hJ, d0, d1, d2, d3, d4, d5, d6, d7, d8⟩))
  all_goals go_wp2_with fail
  all_goals go_ret
  all_goals exact ⟨by rw [tx, HE.out]; rfl, Jn.bw' (by assumption)⟩

set_option maxRecDepth 100000 in
set_option maxHeartbeats 20000000 in
theorem text_r (i : Ins) (h : Rgt i) (hk : i.op = 4) (w : World) : Calls Tryz.prog 36 #[insV i] w fun e w' => e = .returned (tx (textT i)) ∧ BW w w' := by
  have hs := srt_spec i.op
  have hop := h.op
  have ho : I64 i.op := ⟨by omega, by omega⟩
  have hrd := h.rd
  have hr1 := h.rs1
  have hr2 := h.rs2
  have hI := imm_I64 h
  have hA := h.at1
  have hF := h.fen
  obtain ⟨op, rd, rs1, rs2, imm, aq, rl, pred, succ⟩ := i
  simp only at hs hop ho hrd hr1 hr2 hI hA hF hk
  clear h
  have hT : textT ⟨op, rd, rs1, rs2, imm, aq, rl, pred, succ⟩ = nmO op ++ annT aq rl ++ ([32] ++ regT rd ++ [44, 32] ++ regT rs1 ++ [44, 32] ++ digI imm) := by
    unfold textT tailT cmS
    simp only
    rw [if_neg (by omega), if_pos (by omega)]
    try simp only [List.append_assoc, List.cons_append, List.nil_append]
  obtain ⟨rfl, rfl⟩ := hA (by omega)
  have HJ0 : Jn w ⟨op, rd, rs1, rs2, imm, false, false, pred, succ⟩ w.heap.size (w.alloc (.cells (insCells ⟨op, rd, rs1, rs2, imm, false, false, pred, succ⟩) 40)) := ⟨BW.new (Below.refl _ _) _, Blk.new _ _ _, Nat.le_refl _⟩
  have KS := fun g w1 (h : Jn w ⟨op, rd, rs1, rs2, imm, false, false, pred, succ⟩ g w1) => (rsort_any op ho.1 ho.2 w1).mono fun e w' (hh : _ ∧ _) => And.intro hh.1 (h.on hh.2)
  have KN := fun g w1 (h : Jn w ⟨op, rd, rs1, rs2, imm, false, false, pred, succ⟩ g w1) => (rname_any op ho.1 ho.2 w1).mono fun e w' (hh : _ ∧ _) => And.intro hh.1 (h.on hh.2)
  subst hk
  have hsk : srt 4 = 2 := by decide
  rw [hsk] at KS
  have KD1 := fun g w1 (h : Jn w ⟨4, rd, rs1, rs2, imm, false, false, pred, succ⟩ g w1) => (rdigits_any rd (by unfold I64; omega) w1).mono fun e w' (hh : _ ∧ _) => And.intro hh.1 (And.intro (h.on hh.2) (h.on hh.2).cells)
  have KD2 := fun g w1 (h : Jn w ⟨4, rd, rs1, rs2, imm, false, false, pred, succ⟩ g w1) => (rdigits_any rs1 (by unfold I64; omega) w1).mono fun e w' (hh : _ ∧ _) => And.intro hh.1 (And.intro (h.on hh.2) (h.on hh.2).cells)
  have KD3 := fun g w1 (h : Jn w ⟨4, rd, rs1, rs2, imm, false, false, pred, succ⟩ g w1) => (rdigits_any rs2 (by unfold I64; omega) w1).mono fun e w' (hh : _ ∧ _) => And.intro hh.1 (And.intro (h.on hh.2) (h.on hh.2).cells)
  have KD4 := fun g w1 (h : Jn w ⟨4, rd, rs1, rs2, imm, false, false, pred, succ⟩ g w1) => (rdigits_any imm (hI) w1).mono fun e w' (hh : _ ∧ _) => And.intro hh.1 (And.intro (h.on hh.2) (h.on hh.2).cells)
  have l1 := regT_len hrd
  have l2 := regT_len hr1
  have l3 := regT_len hr2
  have l4 := digI_len hI
  have x1 : ∀ w2 : World, (Op.stringOp .add (⟨#[120]⟩ : ByteArray) (bs (digI rd))).run Tryz.prog w2 = .ok (.string (bs (regT rd))) w2 := fun w2 => cat [120] (digI rd) (by simp) (by unfold regT at l1; simp at l1; omega) w2
  have x2 : ∀ w2 : World, (Op.stringOp .add (⟨#[120]⟩ : ByteArray) (bs (digI rs1))).run Tryz.prog w2 = .ok (.string (bs (regT rs1))) w2 := fun w2 => cat [120] (digI rs1) (by simp) (by unfold regT at l2; simp at l2; omega) w2
  have x3 : ∀ w2 : World, (Op.stringOp .add (⟨#[120]⟩ : ByteArray) (bs (digI rs2))).run Tryz.prog w2 = .ok (.string (bs (regT rs2))) w2 := fun w2 => cat [120] (digI rs2) (by simp) (by unfold regT at l3; simp at l3; omega) w2
  have l0 := nmO_len 4
  have HT := Lib.hid hT
  clear hT hA hF hs hop ho
  obtain ⟨S, hS⟩ : ∃ S, nmO 4 = S := ⟨_, rfl⟩
  rw [hS] at KN HT l0
  clear hS
  unfold tx at KN KD1 KD2 KD3 KD4
  generalize digI rd = D1 at KD1 x1
  obtain ⟨R1, hR1⟩ : ∃ R, regT rd = R := ⟨_, rfl⟩
  rw [hR1] at l1 x1
  generalize digI rs1 = D2 at KD2 x2
  obtain ⟨R2, hR2⟩ : ∃ R, regT rs1 = R := ⟨_, rfl⟩
  rw [hR2] at l2 x2
  generalize digI rs2 = D3 at KD3 x3
  obtain ⟨R3, hR3⟩ : ∃ R, regT rs2 = R := ⟨_, rfl⟩
  rw [hR3] at l3 x3
  obtain ⟨D4, hD4⟩ : ∃ R, digI imm = R := ⟨_, rfl⟩
  rw [hD4] at l4 KD4
  have HT : Hid (textT ⟨4, rd, rs1, rs2, imm, false, false, pred, succ⟩ = S ++ annT false false ++ ([32] ++ R1 ++ [44, 32] ++ R2 ++ [44, 32] ++ D4)) := by have := HT.out; rw [hR1, hR2, hD4] at this; exact this
  clear hR1 hR2 hR3 hD4
  have HT : Hid (textT ⟨4, rd, rs1, rs2, imm, false, false, pred, succ⟩ = S ++ ([32] ++ R1 ++ [44, 32] ++ R2 ++ [44, 32] ++ D4)) := by have := HT.out; rw [show annT false false = [] from rfl, List.append_nil] at this; exact this
  have f0 : ∀ w2 : World, (Op.stringOp .add (bs S) (⟨#[32]⟩ : ByteArray)).run Tryz.prog w2 = .ok (.string (bs (S ++ [32]))) w2 := fun w2 => cat S [32] (by first | omega | (simp; omega)) (by first | omega | simp) w2
  have f1 : ∀ w2 : World, (Op.stringOp .add (bs (S ++ [32])) (bs R1)).run Tryz.prog w2 = .ok (.string (bs (S ++ [32] ++ R1))) w2 := fun w2 => cat (S ++ [32]) R1 (by first | omega | (simp; omega)) (by omega) w2
  have f2 : ∀ w2 : World, (Op.stringOp .add (bs (S ++ [32] ++ R1)) (⟨#[44, 32]⟩ : ByteArray)).run Tryz.prog w2 = .ok (.string (bs (S ++ [32] ++ R1 ++ [44, 32]))) w2 := fun w2 => cat (S ++ [32] ++ R1) [44, 32] (by first | omega | (simp; omega)) (by first | omega | simp) w2
  have f3 : ∀ w2 : World, (Op.stringOp .add (bs (S ++ [32] ++ R1 ++ [44, 32])) (bs R2)).run Tryz.prog w2 = .ok (.string (bs (S ++ [32] ++ R1 ++ [44, 32] ++ R2))) w2 := fun w2 => cat (S ++ [32] ++ R1 ++ [44, 32]) R2 (by first | omega | (simp; omega)) (by omega) w2
  have f4 : ∀ w2 : World, (Op.stringOp .add (bs (S ++ [32] ++ R1 ++ [44, 32] ++ R2)) (⟨#[44, 32]⟩ : ByteArray)).run Tryz.prog w2 = .ok (.string (bs (S ++ [32] ++ R1 ++ [44, 32] ++ R2 ++ [44, 32]))) w2 := fun w2 => cat (S ++ [32] ++ R1 ++ [44, 32] ++ R2) [44, 32] (by first | omega | (simp; omega)) (by first | omega | simp) w2
  have f5 : ∀ w2 : World, (Op.stringOp .add (bs (S ++ [32] ++ R1 ++ [44, 32] ++ R2 ++ [44, 32])) (bs D4)).run Tryz.prog w2 = .ok (.string (bs (S ++ [32] ++ R1 ++ [44, 32] ++ R2 ++ [44, 32] ++ D4))) w2 := fun w2 => cat (S ++ [32] ++ R1 ++ [44, 32] ++ R2 ++ [44, 32]) D4 (by first | omega | (simp; omega)) (by omega) w2
  have hE : bs (textT ⟨4, rd, rs1, rs2, imm, false, false, pred, succ⟩) = bs (S ++ [32] ++ R1 ++ [44, 32] ++ R2 ++ [44, 32] ++ D4) := by rw [HT.out]; simp
  clear HT
  generalize bs (S ++ [32] ++ R1 ++ [44, 32] ++ R2 ++ [44, 32] ++ D4) = q5 at f5 hE
  generalize bs (S ++ [32] ++ R1 ++ [44, 32] ++ R2 ++ [44, 32]) = q4 at f4 f5
  generalize bs (S ++ [32] ++ R1 ++ [44, 32] ++ R2) = q3 at f3 f4
  generalize bs (S ++ [32] ++ R1 ++ [44, 32]) = q2 at f2 f3
  generalize bs (S ++ [32] ++ R1) = q1 at f1 f2
  generalize bs (S ++ [32]) = q0 at f0 f1
  have HE := Lib.hid hE
  clear hE
  clear l0 l1 l2 l3 l4
  unfold insV
  unfold insCells at HJ0
  go_enter Tryz.func36, Tryz.ntmps36
  go_upto_region 1 with (fail)
  generalize w.alloc (.cells _ 40) = w1 at *
  obtain ⟨g, hg⟩ : ∃ g, w.heap.size = g := ⟨_, rfl⟩
  rw [hg] at HJ0 ⊢
  have HG := Lib.hid hg
  clear hg
  obtain ⟨c0, c1, c2, c3, c4, c5, c6, c7, c8⟩ := HJ0.cells
  go_upto_region 2 with (first
    | (go_at_call 46; refine (KS g _ HJ0).mono ?_; rintro e w2 ⟨rfl, HJ1⟩))
  clear c0 c1 c2 c3 c4 c5 c6 c7 c8 HJ0
  obtain ⟨c0, c1, c2, c3, c4, c5, c6, c7, c8⟩ := HJ1.cells
  go_upto_region 3 with (first
    | (go_at_call 58; refine (KN g _ HJ1).mono ?_; rintro e w3 ⟨rfl, HJ2⟩))
  clear c0 c1 c2 c3 c4 c5 c6 c7 c8 HJ1
  obtain ⟨c0, c1, c2, c3, c4, c5, c6, c7, c8⟩ := HJ2.cells
  go_upto_region 9 with fail
  clear c5 c6 KS KN
  go_region_held3 (fun w' => Jn w ⟨4, rd, rs1, rs2, imm, false, false, pred, succ⟩ g w' ∧ w'.cell? ⟨g, 0, none⟩ = some (.int .i64 4) ∧ w'.cell? ⟨g, 1, none⟩ = some (.int .i64 rd) ∧ w'.cell? ⟨g, 2, none⟩ = some (.int .i64 rs1) ∧ w'.cell? ⟨g, 3, none⟩ = some (.int .i64 rs2) ∧ w'.cell? ⟨g, 4, none⟩ = some (.int .i64 imm) ∧ w'.cell? ⟨g, 7, none⟩ = some (.int .i64 pred) ∧ w'.cell? ⟨g, 8, none⟩ = some (.int .i64 succ))
    (first | (exact ⟨by assumption, by assumption, by assumption, by assumption, by assumption, by assumption, by assumption, by assumption⟩) | (exact ⟨Jn.drew (by assumption), by assumption, by assumption, by assumption, by assumption, by assumption, by assumption, by assumption⟩))
    (first
      | (go_at_call 37; (with_reducible refine (KD1 g _ ?_).mono ?_); (first | assumption | exact Jn.drew (by assumption)); rintro e w' ⟨rfl, hJ, d0, d1, d2, d3, d4, d5, d6, d7, d8⟩)
      | (go_at_call 37; (with_reducible refine (KD2 g _ ?_).mono ?_); (first | assumption | exact Jn.drew (by assumption)); rintro e w' ⟨rfl, hJ, d0, d1, d2, d3, d4, d5, d6, d7, d8⟩)
      | (go_at_call 37; (with_reducible refine (KD3 g _ ?_).mono ?_); (first | assumption | exact Jn.drew (by assumption)); rintro e w' ⟨rfl, hJ, d0, d1, d2, d3, d4, d5, d6, d7, d8⟩)
      | (go_at_call 37; (with_reducible refine (KD4 g _ ?_).mono ?_); (first | assumption | exact Jn.drew (by assumption)); rintro e w' ⟨rfl, hJ, d0, d1, d2, d3, d4, d5, d6, d7, d8⟩))
  all_goals go_wp2_with fail
  all_goals go_ret
  all_goals exact ⟨by rw [tx, HE.out]; rfl, Jn.bw' (by assumption)⟩

set_option maxRecDepth 100000 in
set_option maxHeartbeats 20000000 in
theorem text_n (i : Ins) (h : Rgt i) (hk : srt i.op = 6) (w : World) : Calls Tryz.prog 36 #[insV i] w fun e w' => e = .returned (tx (textT i)) ∧ BW w w' := by
  have hs := srt_spec i.op
  have hop := h.op
  have ho : I64 i.op := ⟨by omega, by omega⟩
  have hrd := h.rd
  have hr1 := h.rs1
  have hr2 := h.rs2
  have hI := imm_I64 h
  have hA := h.at1
  have hF := h.fen
  obtain ⟨op, rd, rs1, rs2, imm, aq, rl, pred, succ⟩ := i
  simp only at hs hop ho hrd hr1 hr2 hI hA hF hk
  clear h
  have hT : textT ⟨op, rd, rs1, rs2, imm, aq, rl, pred, succ⟩ = nmO op ++ annT aq rl ++ ([32] ++ regT rd ++ [44, 32] ++ regT rs1 ++ [44, 32] ++ digI imm) := by
    unfold textT tailT cmS
    simp only
    rw [if_neg (by omega), if_pos (by omega)]
    try simp only [List.append_assoc, List.cons_append, List.nil_append]
  obtain ⟨rfl, rfl⟩ := hA (by omega)
  have HJ0 : Jn w ⟨op, rd, rs1, rs2, imm, false, false, pred, succ⟩ w.heap.size (w.alloc (.cells (insCells ⟨op, rd, rs1, rs2, imm, false, false, pred, succ⟩) 40)) := ⟨BW.new (Below.refl _ _) _, Blk.new _ _ _, Nat.le_refl _⟩
  have KS := fun g w1 (h : Jn w ⟨op, rd, rs1, rs2, imm, false, false, pred, succ⟩ g w1) => (rsort_any op ho.1 ho.2 w1).mono fun e w' (hh : _ ∧ _) => And.intro hh.1 (h.on hh.2)
  have KN := fun g w1 (h : Jn w ⟨op, rd, rs1, rs2, imm, false, false, pred, succ⟩ g w1) => (rname_any op ho.1 ho.2 w1).mono fun e w' (hh : _ ∧ _) => And.intro hh.1 (h.on hh.2)
  rw [hk] at KS
  have n3 : (op == 3) = false := by rw [beq_eq_false_iff_ne]; omega
  have n50 : (op == 50) = false := by rw [beq_eq_false_iff_ne]; omega
  have KD1 := fun g w1 (h : Jn w ⟨op, rd, rs1, rs2, imm, false, false, pred, succ⟩ g w1) => (rdigits_any rd (by unfold I64; omega) w1).mono fun e w' (hh : _ ∧ _) => And.intro hh.1 (And.intro (h.on hh.2) (h.on hh.2).cells)
  have KD2 := fun g w1 (h : Jn w ⟨op, rd, rs1, rs2, imm, false, false, pred, succ⟩ g w1) => (rdigits_any rs1 (by unfold I64; omega) w1).mono fun e w' (hh : _ ∧ _) => And.intro hh.1 (And.intro (h.on hh.2) (h.on hh.2).cells)
  have KD3 := fun g w1 (h : Jn w ⟨op, rd, rs1, rs2, imm, false, false, pred, succ⟩ g w1) => (rdigits_any rs2 (by unfold I64; omega) w1).mono fun e w' (hh : _ ∧ _) => And.intro hh.1 (And.intro (h.on hh.2) (h.on hh.2).cells)
  have KD4 := fun g w1 (h : Jn w ⟨op, rd, rs1, rs2, imm, false, false, pred, succ⟩ g w1) => (rdigits_any imm (hI) w1).mono fun e w' (hh : _ ∧ _) => And.intro hh.1 (And.intro (h.on hh.2) (h.on hh.2).cells)
  have l1 := regT_len hrd
  have l2 := regT_len hr1
  have l3 := regT_len hr2
  have l4 := digI_len hI
  have x1 : ∀ w2 : World, (Op.stringOp .add (⟨#[120]⟩ : ByteArray) (bs (digI rd))).run Tryz.prog w2 = .ok (.string (bs (regT rd))) w2 := fun w2 => cat [120] (digI rd) (by simp) (by unfold regT at l1; simp at l1; omega) w2
  have x2 : ∀ w2 : World, (Op.stringOp .add (⟨#[120]⟩ : ByteArray) (bs (digI rs1))).run Tryz.prog w2 = .ok (.string (bs (regT rs1))) w2 := fun w2 => cat [120] (digI rs1) (by simp) (by unfold regT at l2; simp at l2; omega) w2
  have x3 : ∀ w2 : World, (Op.stringOp .add (⟨#[120]⟩ : ByteArray) (bs (digI rs2))).run Tryz.prog w2 = .ok (.string (bs (regT rs2))) w2 := fun w2 => cat [120] (digI rs2) (by simp) (by unfold regT at l3; simp at l3; omega) w2
  have l0 := nmO_len op
  have HT := Lib.hid hT
  clear hT hA hF hs hop ho
  obtain ⟨S, hS⟩ : ∃ S, nmO op = S := ⟨_, rfl⟩
  rw [hS] at KN HT l0
  clear hS
  unfold tx at KN KD1 KD2 KD3 KD4
  generalize digI rd = D1 at KD1 x1
  obtain ⟨R1, hR1⟩ : ∃ R, regT rd = R := ⟨_, rfl⟩
  rw [hR1] at l1 x1
  generalize digI rs1 = D2 at KD2 x2
  obtain ⟨R2, hR2⟩ : ∃ R, regT rs1 = R := ⟨_, rfl⟩
  rw [hR2] at l2 x2
  generalize digI rs2 = D3 at KD3 x3
  obtain ⟨R3, hR3⟩ : ∃ R, regT rs2 = R := ⟨_, rfl⟩
  rw [hR3] at l3 x3
  obtain ⟨D4, hD4⟩ : ∃ R, digI imm = R := ⟨_, rfl⟩
  rw [hD4] at l4 KD4
  have HT : Hid (textT ⟨op, rd, rs1, rs2, imm, false, false, pred, succ⟩ = S ++ annT false false ++ ([32] ++ R1 ++ [44, 32] ++ R2 ++ [44, 32] ++ D4)) := by have := HT.out; rw [hR1, hR2, hD4] at this; exact this
  clear hR1 hR2 hR3 hD4
  have HT : Hid (textT ⟨op, rd, rs1, rs2, imm, false, false, pred, succ⟩ = S ++ ([32] ++ R1 ++ [44, 32] ++ R2 ++ [44, 32] ++ D4)) := by have := HT.out; rw [show annT false false = [] from rfl, List.append_nil] at this; exact this
  have f0 : ∀ w2 : World, (Op.stringOp .add (bs S) (⟨#[32]⟩ : ByteArray)).run Tryz.prog w2 = .ok (.string (bs (S ++ [32]))) w2 := fun w2 => cat S [32] (by first | omega | (simp; omega)) (by first | omega | simp) w2
  have f1 : ∀ w2 : World, (Op.stringOp .add (bs (S ++ [32])) (bs R1)).run Tryz.prog w2 = .ok (.string (bs (S ++ [32] ++ R1))) w2 := fun w2 => cat (S ++ [32]) R1 (by first | omega | (simp; omega)) (by omega) w2
  have f2 : ∀ w2 : World, (Op.stringOp .add (bs (S ++ [32] ++ R1)) (⟨#[44, 32]⟩ : ByteArray)).run Tryz.prog w2 = .ok (.string (bs (S ++ [32] ++ R1 ++ [44, 32]))) w2 := fun w2 => cat (S ++ [32] ++ R1) [44, 32] (by first | omega | (simp; omega)) (by first | omega | simp) w2
  have f3 : ∀ w2 : World, (Op.stringOp .add (bs (S ++ [32] ++ R1 ++ [44, 32])) (bs R2)).run Tryz.prog w2 = .ok (.string (bs (S ++ [32] ++ R1 ++ [44, 32] ++ R2))) w2 := fun w2 => cat (S ++ [32] ++ R1 ++ [44, 32]) R2 (by first | omega | (simp; omega)) (by omega) w2
  have f4 : ∀ w2 : World, (Op.stringOp .add (bs (S ++ [32] ++ R1 ++ [44, 32] ++ R2)) (⟨#[44, 32]⟩ : ByteArray)).run Tryz.prog w2 = .ok (.string (bs (S ++ [32] ++ R1 ++ [44, 32] ++ R2 ++ [44, 32]))) w2 := fun w2 => cat (S ++ [32] ++ R1 ++ [44, 32] ++ R2) [44, 32] (by first | omega | (simp; omega)) (by first | omega | simp) w2
  have f5 : ∀ w2 : World, (Op.stringOp .add (bs (S ++ [32] ++ R1 ++ [44, 32] ++ R2 ++ [44, 32])) (bs D4)).run Tryz.prog w2 = .ok (.string (bs (S ++ [32] ++ R1 ++ [44, 32] ++ R2 ++ [44, 32] ++ D4))) w2 := fun w2 => cat (S ++ [32] ++ R1 ++ [44, 32] ++ R2 ++ [44, 32]) D4 (by first | omega | (simp; omega)) (by omega) w2
  have hE : bs (textT ⟨op, rd, rs1, rs2, imm, false, false, pred, succ⟩) = bs (S ++ [32] ++ R1 ++ [44, 32] ++ R2 ++ [44, 32] ++ D4) := by rw [HT.out]; simp
  clear HT
  generalize bs (S ++ [32] ++ R1 ++ [44, 32] ++ R2 ++ [44, 32] ++ D4) = q5 at f5 hE
  generalize bs (S ++ [32] ++ R1 ++ [44, 32] ++ R2 ++ [44, 32]) = q4 at f4 f5
  generalize bs (S ++ [32] ++ R1 ++ [44, 32] ++ R2) = q3 at f3 f4
  generalize bs (S ++ [32] ++ R1 ++ [44, 32]) = q2 at f2 f3
  generalize bs (S ++ [32] ++ R1) = q1 at f1 f2
  generalize bs (S ++ [32]) = q0 at f0 f1
  have HE := Lib.hid hE
  clear hE
  clear l0 l1 l2 l3 l4
  unfold insV
  unfold insCells at HJ0
  go_enter Tryz.func36, Tryz.ntmps36
  go_upto_region 1 with (fail)
  generalize w.alloc (.cells _ 40) = w1 at *
  obtain ⟨g, hg⟩ : ∃ g, w.heap.size = g := ⟨_, rfl⟩
  rw [hg] at HJ0 ⊢
  have HG := Lib.hid hg
  clear hg
  obtain ⟨c0, c1, c2, c3, c4, c5, c6, c7, c8⟩ := HJ0.cells
  go_upto_region 2 with (first
    | (go_at_call 46; refine (KS g _ HJ0).mono ?_; rintro e w2 ⟨rfl, HJ1⟩))
  clear c0 c1 c2 c3 c4 c5 c6 c7 c8 HJ0
  obtain ⟨c0, c1, c2, c3, c4, c5, c6, c7, c8⟩ := HJ1.cells
  go_upto_region 3 with (first
    | (go_at_call 58; refine (KN g _ HJ1).mono ?_; rintro e w3 ⟨rfl, HJ2⟩))
  clear c0 c1 c2 c3 c4 c5 c6 c7 c8 HJ1
  obtain ⟨c0, c1, c2, c3, c4, c5, c6, c7, c8⟩ := HJ2.cells
  go_upto_region 9 with fail
  clear c5 c6 KS KN
  go_region_held3 (fun w' => Jn w ⟨op, rd, rs1, rs2, imm, false, false, pred, succ⟩ g w' ∧ w'.cell? ⟨g, 0, none⟩ = some (.int .i64 op) ∧ w'.cell? ⟨g, 1, none⟩ = some (.int .i64 rd) ∧ w'.cell? ⟨g, 2, none⟩ = some (.int .i64 rs1) ∧ w'.cell? ⟨g, 3, none⟩ = some (.int .i64 rs2) ∧ w'.cell? ⟨g, 4, none⟩ = some (.int .i64 imm) ∧ w'.cell? ⟨g, 7, none⟩ = some (.int .i64 pred) ∧ w'.cell? ⟨g, 8, none⟩ = some (.int .i64 succ))
    (first | (exact ⟨by assumption, by assumption, by assumption, by assumption, by assumption, by assumption, by assumption, by assumption⟩) | (exact ⟨Jn.drew (by assumption), by assumption, by assumption, by assumption, by assumption, by assumption, by assumption, by assumption⟩))
    (first
      | (go_at_call 37; (with_reducible refine (KD1 g _ ?_).mono ?_); (first | assumption | exact Jn.drew (by assumption)); rintro e w' ⟨rfl, hJ, d0, d1, d2, d3, d4, d5, d6, d7, d8⟩)
      | (go_at_call 37; (with_reducible refine (KD2 g _ ?_).mono ?_); (first | assumption | exact Jn.drew (by assumption)); rintro e w' ⟨rfl, hJ, d0, d1, d2, d3, d4, d5, d6, d7, d8⟩)
      | (go_at_call 37; (with_reducible refine (KD3 g _ ?_).mono ?_); (first | assumption | exact Jn.drew (by assumption)); rintro e w' ⟨rfl, hJ, d0, d1, d2, d3, d4, d5, d6, d7, d8⟩)
      | (go_at_call 37; (with_reducible refine (KD4 g _ ?_).mono ?_); (first | assumption | exact Jn.drew (by assumption)); rintro e w' ⟨rfl, hJ, d0, d1, d2, d3, d4, d5, d6, d7, d8⟩))
  all_goals go_wp2_with fail
  all_goals go_ret
  all_goals exact ⟨by rw [tx, HE.out]; rfl, Jn.bw' (by assumption)⟩

set_option maxRecDepth 100000 in
set_option maxHeartbeats 20000000 in
theorem text_b (i : Ins) (h : Rgt i) (hk : srt i.op = 3) (w : World) : Calls Tryz.prog 36 #[insV i] w fun e w' => e = .returned (tx (textT i)) ∧ BW w w' := by
  have hs := srt_spec i.op
  have hop := h.op
  have ho : I64 i.op := ⟨by omega, by omega⟩
  have hrd := h.rd
  have hr1 := h.rs1
  have hr2 := h.rs2
  have hI := imm_I64 h
  have hA := h.at1
  have hF := h.fen
  obtain ⟨op, rd, rs1, rs2, imm, aq, rl, pred, succ⟩ := i
  simp only at hs hop ho hrd hr1 hr2 hI hA hF hk
  clear h
  have hT : textT ⟨op, rd, rs1, rs2, imm, aq, rl, pred, succ⟩ = nmO op ++ annT aq rl ++ ([32] ++ regT rs1 ++ [44, 32] ++ regT rs2 ++ [44, 32] ++ digI imm) := by
    unfold textT tailT cmS
    simp only
    rw [if_neg (by omega), if_neg (by omega), if_pos (by omega)]
    try simp only [List.append_assoc, List.cons_append, List.nil_append]
  obtain ⟨rfl, rfl⟩ := hA (by omega)
  have HJ0 : Jn w ⟨op, rd, rs1, rs2, imm, false, false, pred, succ⟩ w.heap.size (w.alloc (.cells (insCells ⟨op, rd, rs1, rs2, imm, false, false, pred, succ⟩) 40)) := ⟨BW.new (Below.refl _ _) _, Blk.new _ _ _, Nat.le_refl _⟩
  have KS := fun g w1 (h : Jn w ⟨op, rd, rs1, rs2, imm, false, false, pred, succ⟩ g w1) => (rsort_any op ho.1 ho.2 w1).mono fun e w' (hh : _ ∧ _) => And.intro hh.1 (h.on hh.2)
  have KN := fun g w1 (h : Jn w ⟨op, rd, rs1, rs2, imm, false, false, pred, succ⟩ g w1) => (rname_any op ho.1 ho.2 w1).mono fun e w' (hh : _ ∧ _) => And.intro hh.1 (h.on hh.2)
  rw [hk] at KS
  have n3 : (op == 3) = false := by rw [beq_eq_false_iff_ne]; omega
  have n50 : (op == 50) = false := by rw [beq_eq_false_iff_ne]; omega
  have KD1 := fun g w1 (h : Jn w ⟨op, rd, rs1, rs2, imm, false, false, pred, succ⟩ g w1) => (rdigits_any rd (by unfold I64; omega) w1).mono fun e w' (hh : _ ∧ _) => And.intro hh.1 (And.intro (h.on hh.2) (h.on hh.2).cells)
  have KD2 := fun g w1 (h : Jn w ⟨op, rd, rs1, rs2, imm, false, false, pred, succ⟩ g w1) => (rdigits_any rs1 (by unfold I64; omega) w1).mono fun e w' (hh : _ ∧ _) => And.intro hh.1 (And.intro (h.on hh.2) (h.on hh.2).cells)
  have KD3 := fun g w1 (h : Jn w ⟨op, rd, rs1, rs2, imm, false, false, pred, succ⟩ g w1) => (rdigits_any rs2 (by unfold I64; omega) w1).mono fun e w' (hh : _ ∧ _) => And.intro hh.1 (And.intro (h.on hh.2) (h.on hh.2).cells)
  have KD4 := fun g w1 (h : Jn w ⟨op, rd, rs1, rs2, imm, false, false, pred, succ⟩ g w1) => (rdigits_any imm (hI) w1).mono fun e w' (hh : _ ∧ _) => And.intro hh.1 (And.intro (h.on hh.2) (h.on hh.2).cells)
  have l1 := regT_len hrd
  have l2 := regT_len hr1
  have l3 := regT_len hr2
  have l4 := digI_len hI
  have x1 : ∀ w2 : World, (Op.stringOp .add (⟨#[120]⟩ : ByteArray) (bs (digI rd))).run Tryz.prog w2 = .ok (.string (bs (regT rd))) w2 := fun w2 => cat [120] (digI rd) (by simp) (by unfold regT at l1; simp at l1; omega) w2
  have x2 : ∀ w2 : World, (Op.stringOp .add (⟨#[120]⟩ : ByteArray) (bs (digI rs1))).run Tryz.prog w2 = .ok (.string (bs (regT rs1))) w2 := fun w2 => cat [120] (digI rs1) (by simp) (by unfold regT at l2; simp at l2; omega) w2
  have x3 : ∀ w2 : World, (Op.stringOp .add (⟨#[120]⟩ : ByteArray) (bs (digI rs2))).run Tryz.prog w2 = .ok (.string (bs (regT rs2))) w2 := fun w2 => cat [120] (digI rs2) (by simp) (by unfold regT at l3; simp at l3; omega) w2
  have l0 := nmO_len op
  have HT := Lib.hid hT
  clear hT hA hF hs hop ho
  obtain ⟨S, hS⟩ : ∃ S, nmO op = S := ⟨_, rfl⟩
  rw [hS] at KN HT l0
  clear hS
  unfold tx at KN KD1 KD2 KD3 KD4
  generalize digI rd = D1 at KD1 x1
  obtain ⟨R1, hR1⟩ : ∃ R, regT rd = R := ⟨_, rfl⟩
  rw [hR1] at l1 x1
  generalize digI rs1 = D2 at KD2 x2
  obtain ⟨R2, hR2⟩ : ∃ R, regT rs1 = R := ⟨_, rfl⟩
  rw [hR2] at l2 x2
  generalize digI rs2 = D3 at KD3 x3
  obtain ⟨R3, hR3⟩ : ∃ R, regT rs2 = R := ⟨_, rfl⟩
  rw [hR3] at l3 x3
  obtain ⟨D4, hD4⟩ : ∃ R, digI imm = R := ⟨_, rfl⟩
  rw [hD4] at l4 KD4
  have HT : Hid (textT ⟨op, rd, rs1, rs2, imm, false, false, pred, succ⟩ = S ++ annT false false ++ ([32] ++ R2 ++ [44, 32] ++ R3 ++ [44, 32] ++ D4)) := by have := HT.out; rw [hR2, hR3, hD4] at this; exact this
  clear hR1 hR2 hR3 hD4
  have HT : Hid (textT ⟨op, rd, rs1, rs2, imm, false, false, pred, succ⟩ = S ++ ([32] ++ R2 ++ [44, 32] ++ R3 ++ [44, 32] ++ D4)) := by have := HT.out; rw [show annT false false = [] from rfl, List.append_nil] at this; exact this
  have f0 : ∀ w2 : World, (Op.stringOp .add (bs S) (⟨#[32]⟩ : ByteArray)).run Tryz.prog w2 = .ok (.string (bs (S ++ [32]))) w2 := fun w2 => cat S [32] (by first | omega | (simp; omega)) (by first | omega | simp) w2
  have f1 : ∀ w2 : World, (Op.stringOp .add (bs (S ++ [32])) (bs R2)).run Tryz.prog w2 = .ok (.string (bs (S ++ [32] ++ R2))) w2 := fun w2 => cat (S ++ [32]) R2 (by first | omega | (simp; omega)) (by omega) w2
  have f2 : ∀ w2 : World, (Op.stringOp .add (bs (S ++ [32] ++ R2)) (⟨#[44, 32]⟩ : ByteArray)).run Tryz.prog w2 = .ok (.string (bs (S ++ [32] ++ R2 ++ [44, 32]))) w2 := fun w2 => cat (S ++ [32] ++ R2) [44, 32] (by first | omega | (simp; omega)) (by first | omega | simp) w2
  have f3 : ∀ w2 : World, (Op.stringOp .add (bs (S ++ [32] ++ R2 ++ [44, 32])) (bs R3)).run Tryz.prog w2 = .ok (.string (bs (S ++ [32] ++ R2 ++ [44, 32] ++ R3))) w2 := fun w2 => cat (S ++ [32] ++ R2 ++ [44, 32]) R3 (by first | omega | (simp; omega)) (by omega) w2
  have f4 : ∀ w2 : World, (Op.stringOp .add (bs (S ++ [32] ++ R2 ++ [44, 32] ++ R3)) (⟨#[44, 32]⟩ : ByteArray)).run Tryz.prog w2 = .ok (.string (bs (S ++ [32] ++ R2 ++ [44, 32] ++ R3 ++ [44, 32]))) w2 := fun w2 => cat (S ++ [32] ++ R2 ++ [44, 32] ++ R3) [44, 32] (by first | omega | (simp; omega)) (by first | omega | simp) w2
  have f5 : ∀ w2 : World, (Op.stringOp .add (bs (S ++ [32] ++ R2 ++ [44, 32] ++ R3 ++ [44, 32])) (bs D4)).run Tryz.prog w2 = .ok (.string (bs (S ++ [32] ++ R2 ++ [44, 32] ++ R3 ++ [44, 32] ++ D4))) w2 := fun w2 => cat (S ++ [32] ++ R2 ++ [44, 32] ++ R3 ++ [44, 32]) D4 (by first | omega | (simp; omega)) (by omega) w2
  have hE : bs (textT ⟨op, rd, rs1, rs2, imm, false, false, pred, succ⟩) = bs (S ++ [32] ++ R2 ++ [44, 32] ++ R3 ++ [44, 32] ++ D4) := by rw [HT.out]; simp
  clear HT
  generalize bs (S ++ [32] ++ R2 ++ [44, 32] ++ R3 ++ [44, 32] ++ D4) = q5 at f5 hE
  generalize bs (S ++ [32] ++ R2 ++ [44, 32] ++ R3 ++ [44, 32]) = q4 at f4 f5
  generalize bs (S ++ [32] ++ R2 ++ [44, 32] ++ R3) = q3 at f3 f4
  generalize bs (S ++ [32] ++ R2 ++ [44, 32]) = q2 at f2 f3
  generalize bs (S ++ [32] ++ R2) = q1 at f1 f2
  generalize bs (S ++ [32]) = q0 at f0 f1
  have HE := Lib.hid hE
  clear hE
  clear l0 l1 l2 l3 l4
  unfold insV
  unfold insCells at HJ0
  go_enter Tryz.func36, Tryz.ntmps36
  go_upto_region 1 with (fail)
  generalize w.alloc (.cells _ 40) = w1 at *
  obtain ⟨g, hg⟩ : ∃ g, w.heap.size = g := ⟨_, rfl⟩
  rw [hg] at HJ0 ⊢
  have HG := Lib.hid hg
  clear hg
  obtain ⟨c0, c1, c2, c3, c4, c5, c6, c7, c8⟩ := HJ0.cells
  go_upto_region 2 with (first
    | (go_at_call 46; refine (KS g _ HJ0).mono ?_; rintro e w2 ⟨rfl, HJ1⟩))
  clear c0 c1 c2 c3 c4 c5 c6 c7 c8 HJ0
  obtain ⟨c0, c1, c2, c3, c4, c5, c6, c7, c8⟩ := HJ1.cells
  go_upto_region 3 with (first
    | (go_at_call 58; refine (KN g _ HJ1).mono ?_; rintro e w3 ⟨rfl, HJ2⟩))
  clear c0 c1 c2 c3 c4 c5 c6 c7 c8 HJ1
  obtain ⟨c0, c1, c2, c3, c4, c5, c6, c7, c8⟩ := HJ2.cells
  go_upto_region 9 with fail
  clear c5 c6 KS KN
  go_region_held3 (fun w' => Jn w ⟨op, rd, rs1, rs2, imm, false, false, pred, succ⟩ g w' ∧ w'.cell? ⟨g, 0, none⟩ = some (.int .i64 op) ∧ w'.cell? ⟨g, 1, none⟩ = some (.int .i64 rd) ∧ w'.cell? ⟨g, 2, none⟩ = some (.int .i64 rs1) ∧ w'.cell? ⟨g, 3, none⟩ = some (.int .i64 rs2) ∧ w'.cell? ⟨g, 4, none⟩ = some (.int .i64 imm) ∧ w'.cell? ⟨g, 7, none⟩ = some (.int .i64 pred) ∧ w'.cell? ⟨g, 8, none⟩ = some (.int .i64 succ))
    (first | (exact ⟨by assumption, by assumption, by assumption, by assumption, by assumption, by assumption, by assumption, by assumption⟩) | (exact ⟨Jn.drew (by assumption), by assumption, by assumption, by assumption, by assumption, by assumption, by assumption, by assumption⟩))
    (first
      | (go_at_call 37; (with_reducible refine (KD1 g _ ?_).mono ?_); (first | assumption | exact Jn.drew (by assumption)); rintro e w' ⟨rfl, hJ, d0, d1, d2, d3, d4, d5, d6, d7, d8⟩)
      | (go_at_call 37; (with_reducible refine (KD2 g _ ?_).mono ?_); (first | assumption | exact Jn.drew (by assumption)); rintro e w' ⟨rfl, hJ, d0, d1, d2, d3, d4, d5, d6, d7, d8⟩)
      | (go_at_call 37; (with_reducible refine (KD3 g _ ?_).mono ?_); (first | assumption | exact Jn.drew (by assumption)); rintro e w' ⟨rfl, hJ, d0, d1, d2, d3, d4, d5, d6, d7, d8⟩)
      | (go_at_call 37; (with_reducible refine (KD4 g _ ?_).mono ?_); (first | assumption | exact Jn.drew (by assumption)); rintro e w' ⟨rfl, hJ, d0, d1, d2, d3, d4, d5, d6, d7, d8⟩))
  all_goals go_wp2_with fail
  all_goals go_ret
  all_goals exact ⟨by rw [tx, HE.out]; rfl, Jn.bw' (by assumption)⟩

set_option maxRecDepth 100000 in
set_option maxHeartbeats 20000000 in
theorem text_l (i : Ins) (h : Rgt i) (hk : srt i.op = 4) (w : World) : Calls Tryz.prog 36 #[insV i] w fun e w' => e = .returned (tx (textT i)) ∧ BW w w' := by
  have hs := srt_spec i.op
  have hop := h.op
  have ho : I64 i.op := ⟨by omega, by omega⟩
  have hrd := h.rd
  have hr1 := h.rs1
  have hr2 := h.rs2
  have hI := imm_I64 h
  have hA := h.at1
  have hF := h.fen
  obtain ⟨op, rd, rs1, rs2, imm, aq, rl, pred, succ⟩ := i
  simp only at hs hop ho hrd hr1 hr2 hI hA hF hk
  clear h
  have hT : textT ⟨op, rd, rs1, rs2, imm, aq, rl, pred, succ⟩ = nmO op ++ annT aq rl ++ ([32] ++ regT rd ++ [44, 32] ++ digI imm ++ [40] ++ regT rs1 ++ [41]) := by
    unfold textT tailT cmS
    simp only
    rw [if_neg (by omega), if_neg (by omega), if_neg (by omega), if_pos (by omega)]
    try simp only [List.append_assoc, List.cons_append, List.nil_append]
  obtain ⟨rfl, rfl⟩ := hA (by omega)
  have HJ0 : Jn w ⟨op, rd, rs1, rs2, imm, false, false, pred, succ⟩ w.heap.size (w.alloc (.cells (insCells ⟨op, rd, rs1, rs2, imm, false, false, pred, succ⟩) 40)) := ⟨BW.new (Below.refl _ _) _, Blk.new _ _ _, Nat.le_refl _⟩
  have KS := fun g w1 (h : Jn w ⟨op, rd, rs1, rs2, imm, false, false, pred, succ⟩ g w1) => (rsort_any op ho.1 ho.2 w1).mono fun e w' (hh : _ ∧ _) => And.intro hh.1 (h.on hh.2)
  have KN := fun g w1 (h : Jn w ⟨op, rd, rs1, rs2, imm, false, false, pred, succ⟩ g w1) => (rname_any op ho.1 ho.2 w1).mono fun e w' (hh : _ ∧ _) => And.intro hh.1 (h.on hh.2)
  rw [hk] at KS
  have n3 : (op == 3) = false := by rw [beq_eq_false_iff_ne]; omega
  have n50 : (op == 50) = false := by rw [beq_eq_false_iff_ne]; omega
  have KD1 := fun g w1 (h : Jn w ⟨op, rd, rs1, rs2, imm, false, false, pred, succ⟩ g w1) => (rdigits_any rd (by unfold I64; omega) w1).mono fun e w' (hh : _ ∧ _) => And.intro hh.1 (And.intro (h.on hh.2) (h.on hh.2).cells)
  have KD2 := fun g w1 (h : Jn w ⟨op, rd, rs1, rs2, imm, false, false, pred, succ⟩ g w1) => (rdigits_any rs1 (by unfold I64; omega) w1).mono fun e w' (hh : _ ∧ _) => And.intro hh.1 (And.intro (h.on hh.2) (h.on hh.2).cells)
  have KD3 := fun g w1 (h : Jn w ⟨op, rd, rs1, rs2, imm, false, false, pred, succ⟩ g w1) => (rdigits_any rs2 (by unfold I64; omega) w1).mono fun e w' (hh : _ ∧ _) => And.intro hh.1 (And.intro (h.on hh.2) (h.on hh.2).cells)
  have KD4 := fun g w1 (h : Jn w ⟨op, rd, rs1, rs2, imm, false, false, pred, succ⟩ g w1) => (rdigits_any imm (hI) w1).mono fun e w' (hh : _ ∧ _) => And.intro hh.1 (And.intro (h.on hh.2) (h.on hh.2).cells)
  have l1 := regT_len hrd
  have l2 := regT_len hr1
  have l3 := regT_len hr2
  have l4 := digI_len hI
  have x1 : ∀ w2 : World, (Op.stringOp .add (⟨#[120]⟩ : ByteArray) (bs (digI rd))).run Tryz.prog w2 = .ok (.string (bs (regT rd))) w2 := fun w2 => cat [120] (digI rd) (by simp) (by unfold regT at l1; simp at l1; omega) w2
  have x2 : ∀ w2 : World, (Op.stringOp .add (⟨#[120]⟩ : ByteArray) (bs (digI rs1))).run Tryz.prog w2 = .ok (.string (bs (regT rs1))) w2 := fun w2 => cat [120] (digI rs1) (by simp) (by unfold regT at l2; simp at l2; omega) w2
  have x3 : ∀ w2 : World, (Op.stringOp .add (⟨#[120]⟩ : ByteArray) (bs (digI rs2))).run Tryz.prog w2 = .ok (.string (bs (regT rs2))) w2 := fun w2 => cat [120] (digI rs2) (by simp) (by unfold regT at l3; simp at l3; omega) w2
  have l0 := nmO_len op
  have HT := Lib.hid hT
  clear hT hA hF hs hop ho
  obtain ⟨S, hS⟩ : ∃ S, nmO op = S := ⟨_, rfl⟩
  rw [hS] at KN HT l0
  clear hS
  unfold tx at KN KD1 KD2 KD3 KD4
  generalize digI rd = D1 at KD1 x1
  obtain ⟨R1, hR1⟩ : ∃ R, regT rd = R := ⟨_, rfl⟩
  rw [hR1] at l1 x1
  generalize digI rs1 = D2 at KD2 x2
  obtain ⟨R2, hR2⟩ : ∃ R, regT rs1 = R := ⟨_, rfl⟩
  rw [hR2] at l2 x2
  generalize digI rs2 = D3 at KD3 x3
  obtain ⟨R3, hR3⟩ : ∃ R, regT rs2 = R := ⟨_, rfl⟩
  rw [hR3] at l3 x3
  obtain ⟨D4, hD4⟩ : ∃ R, digI imm = R := ⟨_, rfl⟩
  rw [hD4] at l4 KD4
  have HT : Hid (textT ⟨op, rd, rs1, rs2, imm, false, false, pred, succ⟩ = S ++ annT false false ++ ([32] ++ R1 ++ [44, 32] ++ D4 ++ [40] ++ R2 ++ [41])) := by have := HT.out; rw [hR1, hD4, hR2] at this; exact this
  clear hR1 hR2 hR3 hD4
  have HT : Hid (textT ⟨op, rd, rs1, rs2, imm, false, false, pred, succ⟩ = S ++ ([32] ++ R1 ++ [44, 32] ++ D4 ++ [40] ++ R2 ++ [41])) := by have := HT.out; rw [show annT false false = [] from rfl, List.append_nil] at this; exact this
  have f0 : ∀ w2 : World, (Op.stringOp .add (bs S) (⟨#[32]⟩ : ByteArray)).run Tryz.prog w2 = .ok (.string (bs (S ++ [32]))) w2 := fun w2 => cat S [32] (by first | omega | (simp; omega)) (by first | omega | simp) w2
  have f1 : ∀ w2 : World, (Op.stringOp .add (bs (S ++ [32])) (bs R1)).run Tryz.prog w2 = .ok (.string (bs (S ++ [32] ++ R1))) w2 := fun w2 => cat (S ++ [32]) R1 (by first | omega | (simp; omega)) (by omega) w2
  have f2 : ∀ w2 : World, (Op.stringOp .add (bs (S ++ [32] ++ R1)) (⟨#[44, 32]⟩ : ByteArray)).run Tryz.prog w2 = .ok (.string (bs (S ++ [32] ++ R1 ++ [44, 32]))) w2 := fun w2 => cat (S ++ [32] ++ R1) [44, 32] (by first | omega | (simp; omega)) (by first | omega | simp) w2
  have f3 : ∀ w2 : World, (Op.stringOp .add (bs (S ++ [32] ++ R1 ++ [44, 32])) (bs D4)).run Tryz.prog w2 = .ok (.string (bs (S ++ [32] ++ R1 ++ [44, 32] ++ D4))) w2 := fun w2 => cat (S ++ [32] ++ R1 ++ [44, 32]) D4 (by first | omega | (simp; omega)) (by omega) w2
  have f4 : ∀ w2 : World, (Op.stringOp .add (bs (S ++ [32] ++ R1 ++ [44, 32] ++ D4)) (⟨#[40]⟩ : ByteArray)).run Tryz.prog w2 = .ok (.string (bs (S ++ [32] ++ R1 ++ [44, 32] ++ D4 ++ [40]))) w2 := fun w2 => cat (S ++ [32] ++ R1 ++ [44, 32] ++ D4) [40] (by first | omega | (simp; omega)) (by first | omega | simp) w2
  have f5 : ∀ w2 : World, (Op.stringOp .add (bs (S ++ [32] ++ R1 ++ [44, 32] ++ D4 ++ [40])) (bs R2)).run Tryz.prog w2 = .ok (.string (bs (S ++ [32] ++ R1 ++ [44, 32] ++ D4 ++ [40] ++ R2))) w2 := fun w2 => cat (S ++ [32] ++ R1 ++ [44, 32] ++ D4 ++ [40]) R2 (by first | omega | (simp; omega)) (by omega) w2
  have f6 : ∀ w2 : World, (Op.stringOp .add (bs (S ++ [32] ++ R1 ++ [44, 32] ++ D4 ++ [40] ++ R2)) (⟨#[41]⟩ : ByteArray)).run Tryz.prog w2 = .ok (.string (bs (S ++ [32] ++ R1 ++ [44, 32] ++ D4 ++ [40] ++ R2 ++ [41]))) w2 := fun w2 => cat (S ++ [32] ++ R1 ++ [44, 32] ++ D4 ++ [40] ++ R2) [41] (by first | omega | (simp; omega)) (by first | omega | simp) w2
  have hE : bs (textT ⟨op, rd, rs1, rs2, imm, false, false, pred, succ⟩) = bs (S ++ [32] ++ R1 ++ [44, 32] ++ D4 ++ [40] ++ R2 ++ [41]) := by rw [HT.out]; simp
  clear HT
  generalize bs (S ++ [32] ++ R1 ++ [44, 32] ++ D4 ++ [40] ++ R2 ++ [41]) = q6 at f6 hE
  generalize bs (S ++ [32] ++ R1 ++ [44, 32] ++ D4 ++ [40] ++ R2) = q5 at f5 f6
  generalize bs (S ++ [32] ++ R1 ++ [44, 32] ++ D4 ++ [40]) = q4 at f4 f5
  generalize bs (S ++ [32] ++ R1 ++ [44, 32] ++ D4) = q3 at f3 f4
  generalize bs (S ++ [32] ++ R1 ++ [44, 32]) = q2 at f2 f3
  generalize bs (S ++ [32] ++ R1) = q1 at f1 f2
  generalize bs (S ++ [32]) = q0 at f0 f1
  have HE := Lib.hid hE
  clear hE
  clear l0 l1 l2 l3 l4
  unfold insV
  unfold insCells at HJ0
  go_enter Tryz.func36, Tryz.ntmps36
  go_upto_region 1 with (fail)
  generalize w.alloc (.cells _ 40) = w1 at *
  obtain ⟨g, hg⟩ : ∃ g, w.heap.size = g := ⟨_, rfl⟩
  rw [hg] at HJ0 ⊢
  have HG := Lib.hid hg
  clear hg
  obtain ⟨c0, c1, c2, c3, c4, c5, c6, c7, c8⟩ := HJ0.cells
  go_upto_region 2 with (first
    | (go_at_call 46; refine (KS g _ HJ0).mono ?_; rintro e w2 ⟨rfl, HJ1⟩))
  clear c0 c1 c2 c3 c4 c5 c6 c7 c8 HJ0
  obtain ⟨c0, c1, c2, c3, c4, c5, c6, c7, c8⟩ := HJ1.cells
  go_upto_region 3 with (first
    | (go_at_call 58; refine (KN g _ HJ1).mono ?_; rintro e w3 ⟨rfl, HJ2⟩))
  clear c0 c1 c2 c3 c4 c5 c6 c7 c8 HJ1
  obtain ⟨c0, c1, c2, c3, c4, c5, c6, c7, c8⟩ := HJ2.cells
  go_upto_region 9 with fail
  clear c5 c6 KS KN
  go_region_held3 (fun w' => Jn w ⟨op, rd, rs1, rs2, imm, false, false, pred, succ⟩ g w' ∧ w'.cell? ⟨g, 0, none⟩ = some (.int .i64 op) ∧ w'.cell? ⟨g, 1, none⟩ = some (.int .i64 rd) ∧ w'.cell? ⟨g, 2, none⟩ = some (.int .i64 rs1) ∧ w'.cell? ⟨g, 3, none⟩ = some (.int .i64 rs2) ∧ w'.cell? ⟨g, 4, none⟩ = some (.int .i64 imm) ∧ w'.cell? ⟨g, 7, none⟩ = some (.int .i64 pred) ∧ w'.cell? ⟨g, 8, none⟩ = some (.int .i64 succ))
    (first | (exact ⟨by assumption, by assumption, by assumption, by assumption, by assumption, by assumption, by assumption, by assumption⟩) | (exact ⟨Jn.drew (by assumption), by assumption, by assumption, by assumption, by assumption, by assumption, by assumption, by assumption⟩))
    (first
      | (go_at_call 37; (with_reducible refine (KD1 g _ ?_).mono ?_); (first | assumption | exact Jn.drew (by assumption)); rintro e w' ⟨rfl, hJ, d0, d1, d2, d3, d4, d5, d6, d7, d8⟩)
      | (go_at_call 37; (with_reducible refine (KD2 g _ ?_).mono ?_); (first | assumption | exact Jn.drew (by assumption)); rintro e w' ⟨rfl, hJ, d0, d1, d2, d3, d4, d5, d6, d7, d8⟩)
      | (go_at_call 37; (with_reducible refine (KD3 g _ ?_).mono ?_); (first | assumption | exact Jn.drew (by assumption)); rintro e w' ⟨rfl, hJ, d0, d1, d2, d3, d4, d5, d6, d7, d8⟩)
      | (go_at_call 37; (with_reducible refine (KD4 g _ ?_).mono ?_); (first | assumption | exact Jn.drew (by assumption)); rintro e w' ⟨rfl, hJ, d0, d1, d2, d3, d4, d5, d6, d7, d8⟩))
  all_goals go_wp2_with fail
  all_goals go_ret
  all_goals exact ⟨by rw [tx, HE.out]; rfl, Jn.bw' (by assumption)⟩

set_option maxRecDepth 100000 in
set_option maxHeartbeats 20000000 in
theorem text_s (i : Ins) (h : Rgt i) (hk : srt i.op = 5) (w : World) : Calls Tryz.prog 36 #[insV i] w fun e w' => e = .returned (tx (textT i)) ∧ BW w w' := by
  have hs := srt_spec i.op
  have hop := h.op
  have ho : I64 i.op := ⟨by omega, by omega⟩
  have hrd := h.rd
  have hr1 := h.rs1
  have hr2 := h.rs2
  have hI := imm_I64 h
  have hA := h.at1
  have hF := h.fen
  obtain ⟨op, rd, rs1, rs2, imm, aq, rl, pred, succ⟩ := i
  simp only at hs hop ho hrd hr1 hr2 hI hA hF hk
  clear h
  have hT : textT ⟨op, rd, rs1, rs2, imm, aq, rl, pred, succ⟩ = nmO op ++ annT aq rl ++ ([32] ++ regT rs2 ++ [44, 32] ++ digI imm ++ [40] ++ regT rs1 ++ [41]) := by
    unfold textT tailT cmS
    simp only
    rw [if_neg (by omega), if_neg (by omega), if_neg (by omega), if_neg (by omega), if_pos (by omega)]
    try simp only [List.append_assoc, List.cons_append, List.nil_append]
  obtain ⟨rfl, rfl⟩ := hA (by omega)
  have HJ0 : Jn w ⟨op, rd, rs1, rs2, imm, false, false, pred, succ⟩ w.heap.size (w.alloc (.cells (insCells ⟨op, rd, rs1, rs2, imm, false, false, pred, succ⟩) 40)) := ⟨BW.new (Below.refl _ _) _, Blk.new _ _ _, Nat.le_refl _⟩
  have KS := fun g w1 (h : Jn w ⟨op, rd, rs1, rs2, imm, false, false, pred, succ⟩ g w1) => (rsort_any op ho.1 ho.2 w1).mono fun e w' (hh : _ ∧ _) => And.intro hh.1 (h.on hh.2)
  have KN := fun g w1 (h : Jn w ⟨op, rd, rs1, rs2, imm, false, false, pred, succ⟩ g w1) => (rname_any op ho.1 ho.2 w1).mono fun e w' (hh : _ ∧ _) => And.intro hh.1 (h.on hh.2)
  rw [hk] at KS
  have n3 : (op == 3) = false := by rw [beq_eq_false_iff_ne]; omega
  have n50 : (op == 50) = false := by rw [beq_eq_false_iff_ne]; omega
  have KD1 := fun g w1 (h : Jn w ⟨op, rd, rs1, rs2, imm, false, false, pred, succ⟩ g w1) => (rdigits_any rd (by unfold I64; omega) w1).mono fun e w' (hh : _ ∧ _) => And.intro hh.1 (And.intro (h.on hh.2) (h.on hh.2).cells)
  have KD2 := fun g w1 (h : Jn w ⟨op, rd, rs1, rs2, imm, false, false, pred, succ⟩ g w1) => (rdigits_any rs1 (by unfold I64; omega) w1).mono fun e w' (hh : _ ∧ _) => And.intro hh.1 (And.intro (h.on hh.2) (h.on hh.2).cells)
  have KD3 := fun g w1 (h : Jn w ⟨op, rd, rs1, rs2, imm, false, false, pred, succ⟩ g w1) => (rdigits_any rs2 (by unfold I64; omega) w1).mono fun e w' (hh : _ ∧ _) => And.intro hh.1 (And.intro (h.on hh.2) (h.on hh.2).cells)
  have KD4 := fun g w1 (h : Jn w ⟨op, rd, rs1, rs2, imm, false, false, pred, succ⟩ g w1) => (rdigits_any imm (hI) w1).mono fun e w' (hh : _ ∧ _) => And.intro hh.1 (And.intro (h.on hh.2) (h.on hh.2).cells)
  have l1 := regT_len hrd
  have l2 := regT_len hr1
  have l3 := regT_len hr2
  have l4 := digI_len hI
  have x1 : ∀ w2 : World, (Op.stringOp .add (⟨#[120]⟩ : ByteArray) (bs (digI rd))).run Tryz.prog w2 = .ok (.string (bs (regT rd))) w2 := fun w2 => cat [120] (digI rd) (by simp) (by unfold regT at l1; simp at l1; omega) w2
  have x2 : ∀ w2 : World, (Op.stringOp .add (⟨#[120]⟩ : ByteArray) (bs (digI rs1))).run Tryz.prog w2 = .ok (.string (bs (regT rs1))) w2 := fun w2 => cat [120] (digI rs1) (by simp) (by unfold regT at l2; simp at l2; omega) w2
  have x3 : ∀ w2 : World, (Op.stringOp .add (⟨#[120]⟩ : ByteArray) (bs (digI rs2))).run Tryz.prog w2 = .ok (.string (bs (regT rs2))) w2 := fun w2 => cat [120] (digI rs2) (by simp) (by unfold regT at l3; simp at l3; omega) w2
  have l0 := nmO_len op
  have HT := Lib.hid hT
  clear hT hA hF hs hop ho
  obtain ⟨S, hS⟩ : ∃ S, nmO op = S := ⟨_, rfl⟩
  rw [hS] at KN HT l0
  clear hS
  unfold tx at KN KD1 KD2 KD3 KD4
  generalize digI rd = D1 at KD1 x1
  obtain ⟨R1, hR1⟩ : ∃ R, regT rd = R := ⟨_, rfl⟩
  rw [hR1] at l1 x1
  generalize digI rs1 = D2 at KD2 x2
  obtain ⟨R2, hR2⟩ : ∃ R, regT rs1 = R := ⟨_, rfl⟩
  rw [hR2] at l2 x2
  generalize digI rs2 = D3 at KD3 x3
  obtain ⟨R3, hR3⟩ : ∃ R, regT rs2 = R := ⟨_, rfl⟩
  rw [hR3] at l3 x3
  obtain ⟨D4, hD4⟩ : ∃ R, digI imm = R := ⟨_, rfl⟩
  rw [hD4] at l4 KD4
  have HT : Hid (textT ⟨op, rd, rs1, rs2, imm, false, false, pred, succ⟩ = S ++ annT false false ++ ([32] ++ R3 ++ [44, 32] ++ D4 ++ [40] ++ R2 ++ [41])) := by have := HT.out; rw [hR3, hD4, hR2] at this; exact this
  clear hR1 hR2 hR3 hD4
  have HT : Hid (textT ⟨op, rd, rs1, rs2, imm, false, false, pred, succ⟩ = S ++ ([32] ++ R3 ++ [44, 32] ++ D4 ++ [40] ++ R2 ++ [41])) := by have := HT.out; rw [show annT false false = [] from rfl, List.append_nil] at this; exact this
  have f0 : ∀ w2 : World, (Op.stringOp .add (bs S) (⟨#[32]⟩ : ByteArray)).run Tryz.prog w2 = .ok (.string (bs (S ++ [32]))) w2 := fun w2 => cat S [32] (by first | omega | (simp; omega)) (by first | omega | simp) w2
  have f1 : ∀ w2 : World, (Op.stringOp .add (bs (S ++ [32])) (bs R3)).run Tryz.prog w2 = .ok (.string (bs (S ++ [32] ++ R3))) w2 := fun w2 => cat (S ++ [32]) R3 (by first | omega | (simp; omega)) (by omega) w2
  have f2 : ∀ w2 : World, (Op.stringOp .add (bs (S ++ [32] ++ R3)) (⟨#[44, 32]⟩ : ByteArray)).run Tryz.prog w2 = .ok (.string (bs (S ++ [32] ++ R3 ++ [44, 32]))) w2 := fun w2 => cat (S ++ [32] ++ R3) [44, 32] (by first | omega | (simp; omega)) (by first | omega | simp) w2
  have f3 : ∀ w2 : World, (Op.stringOp .add (bs (S ++ [32] ++ R3 ++ [44, 32])) (bs D4)).run Tryz.prog w2 = .ok (.string (bs (S ++ [32] ++ R3 ++ [44, 32] ++ D4))) w2 := fun w2 => cat (S ++ [32] ++ R3 ++ [44, 32]) D4 (by first | omega | (simp; omega)) (by omega) w2
  have f4 : ∀ w2 : World, (Op.stringOp .add (bs (S ++ [32] ++ R3 ++ [44, 32] ++ D4)) (⟨#[40]⟩ : ByteArray)).run Tryz.prog w2 = .ok (.string (bs (S ++ [32] ++ R3 ++ [44, 32] ++ D4 ++ [40]))) w2 := fun w2 => cat (S ++ [32] ++ R3 ++ [44, 32] ++ D4) [40] (by first | omega | (simp; omega)) (by first | omega | simp) w2
  have f5 : ∀ w2 : World, (Op.stringOp .add (bs (S ++ [32] ++ R3 ++ [44, 32] ++ D4 ++ [40])) (bs R2)).run Tryz.prog w2 = .ok (.string (bs (S ++ [32] ++ R3 ++ [44, 32] ++ D4 ++ [40] ++ R2))) w2 := fun w2 => cat (S ++ [32] ++ R3 ++ [44, 32] ++ D4 ++ [40]) R2 (by first | omega | (simp; omega)) (by omega) w2
  have f6 : ∀ w2 : World, (Op.stringOp .add (bs (S ++ [32] ++ R3 ++ [44, 32] ++ D4 ++ [40] ++ R2)) (⟨#[41]⟩ : ByteArray)).run Tryz.prog w2 = .ok (.string (bs (S ++ [32] ++ R3 ++ [44, 32] ++ D4 ++ [40] ++ R2 ++ [41]))) w2 := fun w2 => cat (S ++ [32] ++ R3 ++ [44, 32] ++ D4 ++ [40] ++ R2) [41] (by first | omega | (simp; omega)) (by first | omega | simp) w2
  have hE : bs (textT ⟨op, rd, rs1, rs2, imm, false, false, pred, succ⟩) = bs (S ++ [32] ++ R3 ++ [44, 32] ++ D4 ++ [40] ++ R2 ++ [41]) := by rw [HT.out]; simp
  clear HT
  generalize bs (S ++ [32] ++ R3 ++ [44, 32] ++ D4 ++ [40] ++ R2 ++ [41]) = q6 at f6 hE
  generalize bs (S ++ [32] ++ R3 ++ [44, 32] ++ D4 ++ [40] ++ R2) = q5 at f5 f6
  generalize bs (S ++ [32] ++ R3 ++ [44, 32] ++ D4 ++ [40]) = q4 at f4 f5
  generalize bs (S ++ [32] ++ R3 ++ [44, 32] ++ D4) = q3 at f3 f4
  generalize bs (S ++ [32] ++ R3 ++ [44, 32]) = q2 at f2 f3
  generalize bs (S ++ [32] ++ R3) = q1 at f1 f2
  generalize bs (S ++ [32]) = q0 at f0 f1
  have HE := Lib.hid hE
  clear hE
  clear l0 l1 l2 l3 l4
  unfold insV
  unfold insCells at HJ0
  go_enter Tryz.func36, Tryz.ntmps36
  go_upto_region 1 with (fail)
  generalize w.alloc (.cells _ 40) = w1 at *
  obtain ⟨g, hg⟩ : ∃ g, w.heap.size = g := ⟨_, rfl⟩
  rw [hg] at HJ0 ⊢
  have HG := Lib.hid hg
  clear hg
  obtain ⟨c0, c1, c2, c3, c4, c5, c6, c7, c8⟩ := HJ0.cells
  go_upto_region 2 with (first
    | (go_at_call 46; refine (KS g _ HJ0).mono ?_; rintro e w2 ⟨rfl, HJ1⟩))
  clear c0 c1 c2 c3 c4 c5 c6 c7 c8 HJ0
  obtain ⟨c0, c1, c2, c3, c4, c5, c6, c7, c8⟩ := HJ1.cells
  go_upto_region 3 with (first
    | (go_at_call 58; refine (KN g _ HJ1).mono ?_; rintro e w3 ⟨rfl, HJ2⟩))
  clear c0 c1 c2 c3 c4 c5 c6 c7 c8 HJ1
  obtain ⟨c0, c1, c2, c3, c4, c5, c6, c7, c8⟩ := HJ2.cells
  go_upto_region 9 with fail
  clear c5 c6 KS KN
  go_region_held3 (fun w' => Jn w ⟨op, rd, rs1, rs2, imm, false, false, pred, succ⟩ g w' ∧ w'.cell? ⟨g, 0, none⟩ = some (.int .i64 op) ∧ w'.cell? ⟨g, 1, none⟩ = some (.int .i64 rd) ∧ w'.cell? ⟨g, 2, none⟩ = some (.int .i64 rs1) ∧ w'.cell? ⟨g, 3, none⟩ = some (.int .i64 rs2) ∧ w'.cell? ⟨g, 4, none⟩ = some (.int .i64 imm) ∧ w'.cell? ⟨g, 7, none⟩ = some (.int .i64 pred) ∧ w'.cell? ⟨g, 8, none⟩ = some (.int .i64 succ))
    (first | (exact ⟨by assumption, by assumption, by assumption, by assumption, by assumption, by assumption, by assumption, by assumption⟩) | (exact ⟨Jn.drew (by assumption), by assumption, by assumption, by assumption, by assumption, by assumption, by assumption, by assumption⟩))
    (first
      | (go_at_call 37; (with_reducible refine (KD1 g _ ?_).mono ?_); (first | assumption | exact Jn.drew (by assumption)); rintro e w' ⟨rfl, hJ, d0, d1, d2, d3, d4, d5, d6, d7, d8⟩)
      | (go_at_call 37; (with_reducible refine (KD2 g _ ?_).mono ?_); (first | assumption | exact Jn.drew (by assumption)); rintro e w' ⟨rfl, hJ, d0, d1, d2, d3, d4, d5, d6, d7, d8⟩)
      | (go_at_call 37; (with_reducible refine (KD3 g _ ?_).mono ?_); (first | assumption | exact Jn.drew (by assumption)); rintro e w' ⟨rfl, hJ, d0, d1, d2, d3, d4, d5, d6, d7, d8⟩)
      | (go_at_call 37; (with_reducible refine (KD4 g _ ?_).mono ?_); (first | assumption | exact Jn.drew (by assumption)); rintro e w' ⟨rfl, hJ, d0, d1, d2, d3, d4, d5, d6, d7, d8⟩))
  all_goals go_wp2_with fail
  all_goals go_ret
  all_goals exact ⟨by rw [tx, HE.out]; rfl, Jn.bw' (by assumption)⟩

set_option maxRecDepth 100000 in
set_option maxHeartbeats 20000000 in
theorem text_p (i : Ins) (h : Rgt i) (hk : srt i.op = 7) (w : World) : Calls Tryz.prog 36 #[insV i] w fun e w' => e = .returned (tx (textT i)) ∧ BW w w' := by
  have hs := srt_spec i.op
  have hop := h.op
  have ho : I64 i.op := ⟨by omega, by omega⟩
  have hrd := h.rd
  have hr1 := h.rs1
  have hr2 := h.rs2
  have hI := imm_I64 h
  have hA := h.at1
  have hF := h.fen
  obtain ⟨op, rd, rs1, rs2, imm, aq, rl, pred, succ⟩ := i
  simp only at hs hop ho hrd hr1 hr2 hI hA hF hk
  clear h
  have hT : textT ⟨op, rd, rs1, rs2, imm, aq, rl, pred, succ⟩ = nmO op ++ annT aq rl ++ ([32] ++ regT rd ++ [44, 32] ++ regT rs1 ++ [44, 32] ++ regT rs2) := by
    unfold textT tailT cmS
    simp only
    rw [if_neg (by omega), if_neg (by omega), if_neg (by omega), if_neg (by omega), if_neg (by omega), if_pos (by omega)]
    try simp only [List.append_assoc, List.cons_append, List.nil_append]
  obtain ⟨rfl, rfl⟩ := hA (by omega)
  have HJ0 : Jn w ⟨op, rd, rs1, rs2, imm, false, false, pred, succ⟩ w.heap.size (w.alloc (.cells (insCells ⟨op, rd, rs1, rs2, imm, false, false, pred, succ⟩) 40)) := ⟨BW.new (Below.refl _ _) _, Blk.new _ _ _, Nat.le_refl _⟩
  have KS := fun g w1 (h : Jn w ⟨op, rd, rs1, rs2, imm, false, false, pred, succ⟩ g w1) => (rsort_any op ho.1 ho.2 w1).mono fun e w' (hh : _ ∧ _) => And.intro hh.1 (h.on hh.2)
  have KN := fun g w1 (h : Jn w ⟨op, rd, rs1, rs2, imm, false, false, pred, succ⟩ g w1) => (rname_any op ho.1 ho.2 w1).mono fun e w' (hh : _ ∧ _) => And.intro hh.1 (h.on hh.2)
  rw [hk] at KS
  have n3 : (op == 3) = false := by rw [beq_eq_false_iff_ne]; omega
  have n50 : (op == 50) = false := by rw [beq_eq_false_iff_ne]; omega
  have KD1 := fun g w1 (h : Jn w ⟨op, rd, rs1, rs2, imm, false, false, pred, succ⟩ g w1) => (rdigits_any rd (by unfold I64; omega) w1).mono fun e w' (hh : _ ∧ _) => And.intro hh.1 (And.intro (h.on hh.2) (h.on hh.2).cells)
  have KD2 := fun g w1 (h : Jn w ⟨op, rd, rs1, rs2, imm, false, false, pred, succ⟩ g w1) => (rdigits_any rs1 (by unfold I64; omega) w1).mono fun e w' (hh : _ ∧ _) => And.intro hh.1 (And.intro (h.on hh.2) (h.on hh.2).cells)
  have KD3 := fun g w1 (h : Jn w ⟨op, rd, rs1, rs2, imm, false, false, pred, succ⟩ g w1) => (rdigits_any rs2 (by unfold I64; omega) w1).mono fun e w' (hh : _ ∧ _) => And.intro hh.1 (And.intro (h.on hh.2) (h.on hh.2).cells)
  have KD4 := fun g w1 (h : Jn w ⟨op, rd, rs1, rs2, imm, false, false, pred, succ⟩ g w1) => (rdigits_any imm (hI) w1).mono fun e w' (hh : _ ∧ _) => And.intro hh.1 (And.intro (h.on hh.2) (h.on hh.2).cells)
  have l1 := regT_len hrd
  have l2 := regT_len hr1
  have l3 := regT_len hr2
  have l4 := digI_len hI
  have x1 : ∀ w2 : World, (Op.stringOp .add (⟨#[120]⟩ : ByteArray) (bs (digI rd))).run Tryz.prog w2 = .ok (.string (bs (regT rd))) w2 := fun w2 => cat [120] (digI rd) (by simp) (by unfold regT at l1; simp at l1; omega) w2
  have x2 : ∀ w2 : World, (Op.stringOp .add (⟨#[120]⟩ : ByteArray) (bs (digI rs1))).run Tryz.prog w2 = .ok (.string (bs (regT rs1))) w2 := fun w2 => cat [120] (digI rs1) (by simp) (by unfold regT at l2; simp at l2; omega) w2
  have x3 : ∀ w2 : World, (Op.stringOp .add (⟨#[120]⟩ : ByteArray) (bs (digI rs2))).run Tryz.prog w2 = .ok (.string (bs (regT rs2))) w2 := fun w2 => cat [120] (digI rs2) (by simp) (by unfold regT at l3; simp at l3; omega) w2
  have l0 := nmO_len op
  have HT := Lib.hid hT
  clear hT hA hF hs hop ho
  obtain ⟨S, hS⟩ : ∃ S, nmO op = S := ⟨_, rfl⟩
  rw [hS] at KN HT l0
  clear hS
  unfold tx at KN KD1 KD2 KD3 KD4
  generalize digI rd = D1 at KD1 x1
  obtain ⟨R1, hR1⟩ : ∃ R, regT rd = R := ⟨_, rfl⟩
  rw [hR1] at l1 x1
  generalize digI rs1 = D2 at KD2 x2
  obtain ⟨R2, hR2⟩ : ∃ R, regT rs1 = R := ⟨_, rfl⟩
  rw [hR2] at l2 x2
  generalize digI rs2 = D3 at KD3 x3
  obtain ⟨R3, hR3⟩ : ∃ R, regT rs2 = R := ⟨_, rfl⟩
  rw [hR3] at l3 x3
  obtain ⟨D4, hD4⟩ : ∃ R, digI imm = R := ⟨_, rfl⟩
  rw [hD4] at l4 KD4
  have HT : Hid (textT ⟨op, rd, rs1, rs2, imm, false, false, pred, succ⟩ = S ++ annT false false ++ ([32] ++ R1 ++ [44, 32] ++ R2 ++ [44, 32] ++ R3)) := by have := HT.out; rw [hR1, hR2, hR3] at this; exact this
  clear hR1 hR2 hR3 hD4
  have HT : Hid (textT ⟨op, rd, rs1, rs2, imm, false, false, pred, succ⟩ = S ++ ([32] ++ R1 ++ [44, 32] ++ R2 ++ [44, 32] ++ R3)) := by have := HT.out; rw [show annT false false = [] from rfl, List.append_nil] at this; exact this
  have f0 : ∀ w2 : World, (Op.stringOp .add (bs S) (⟨#[32]⟩ : ByteArray)).run Tryz.prog w2 = .ok (.string (bs (S ++ [32]))) w2 := fun w2 => cat S [32] (by first | omega | (simp; omega)) (by first | omega | simp) w2
  have f1 : ∀ w2 : World, (Op.stringOp .add (bs (S ++ [32])) (bs R1)).run Tryz.prog w2 = .ok (.string (bs (S ++ [32] ++ R1))) w2 := fun w2 => cat (S ++ [32]) R1 (by first | omega | (simp; omega)) (by omega) w2
  have f2 : ∀ w2 : World, (Op.stringOp .add (bs (S ++ [32] ++ R1)) (⟨#[44, 32]⟩ : ByteArray)).run Tryz.prog w2 = .ok (.string (bs (S ++ [32] ++ R1 ++ [44, 32]))) w2 := fun w2 => cat (S ++ [32] ++ R1) [44, 32] (by first | omega | (simp; omega)) (by first | omega | simp) w2
  have f3 : ∀ w2 : World, (Op.stringOp .add (bs (S ++ [32] ++ R1 ++ [44, 32])) (bs R2)).run Tryz.prog w2 = .ok (.string (bs (S ++ [32] ++ R1 ++ [44, 32] ++ R2))) w2 := fun w2 => cat (S ++ [32] ++ R1 ++ [44, 32]) R2 (by first | omega | (simp; omega)) (by omega) w2
  have f4 : ∀ w2 : World, (Op.stringOp .add (bs (S ++ [32] ++ R1 ++ [44, 32] ++ R2)) (⟨#[44, 32]⟩ : ByteArray)).run Tryz.prog w2 = .ok (.string (bs (S ++ [32] ++ R1 ++ [44, 32] ++ R2 ++ [44, 32]))) w2 := fun w2 => cat (S ++ [32] ++ R1 ++ [44, 32] ++ R2) [44, 32] (by first | omega | (simp; omega)) (by first | omega | simp) w2
  have f5 : ∀ w2 : World, (Op.stringOp .add (bs (S ++ [32] ++ R1 ++ [44, 32] ++ R2 ++ [44, 32])) (bs R3)).run Tryz.prog w2 = .ok (.string (bs (S ++ [32] ++ R1 ++ [44, 32] ++ R2 ++ [44, 32] ++ R3))) w2 := fun w2 => cat (S ++ [32] ++ R1 ++ [44, 32] ++ R2 ++ [44, 32]) R3 (by first | omega | (simp; omega)) (by omega) w2
  have hE : bs (textT ⟨op, rd, rs1, rs2, imm, false, false, pred, succ⟩) = bs (S ++ [32] ++ R1 ++ [44, 32] ++ R2 ++ [44, 32] ++ R3) := by rw [HT.out]; simp
  clear HT
  generalize bs (S ++ [32] ++ R1 ++ [44, 32] ++ R2 ++ [44, 32] ++ R3) = q5 at f5 hE
  generalize bs (S ++ [32] ++ R1 ++ [44, 32] ++ R2 ++ [44, 32]) = q4 at f4 f5
  generalize bs (S ++ [32] ++ R1 ++ [44, 32] ++ R2) = q3 at f3 f4
  generalize bs (S ++ [32] ++ R1 ++ [44, 32]) = q2 at f2 f3
  generalize bs (S ++ [32] ++ R1) = q1 at f1 f2
  generalize bs (S ++ [32]) = q0 at f0 f1
  have HE := Lib.hid hE
  clear hE
  clear l0 l1 l2 l3 l4
  unfold insV
  unfold insCells at HJ0
  go_enter Tryz.func36, Tryz.ntmps36
  go_upto_region 1 with (fail)
  generalize w.alloc (.cells _ 40) = w1 at *
  obtain ⟨g, hg⟩ : ∃ g, w.heap.size = g := ⟨_, rfl⟩
  rw [hg] at HJ0 ⊢
  have HG := Lib.hid hg
  clear hg
  obtain ⟨c0, c1, c2, c3, c4, c5, c6, c7, c8⟩ := HJ0.cells
  go_upto_region 2 with (first
    | (go_at_call 46; refine (KS g _ HJ0).mono ?_; rintro e w2 ⟨rfl, HJ1⟩))
  clear c0 c1 c2 c3 c4 c5 c6 c7 c8 HJ0
  obtain ⟨c0, c1, c2, c3, c4, c5, c6, c7, c8⟩ := HJ1.cells
  go_upto_region 3 with (first
    | (go_at_call 58; refine (KN g _ HJ1).mono ?_; rintro e w3 ⟨rfl, HJ2⟩))
  clear c0 c1 c2 c3 c4 c5 c6 c7 c8 HJ1
  obtain ⟨c0, c1, c2, c3, c4, c5, c6, c7, c8⟩ := HJ2.cells
  go_upto_region 9 with fail
  clear c5 c6 KS KN
  go_region_held3 (fun w' => Jn w ⟨op, rd, rs1, rs2, imm, false, false, pred, succ⟩ g w' ∧ w'.cell? ⟨g, 0, none⟩ = some (.int .i64 op) ∧ w'.cell? ⟨g, 1, none⟩ = some (.int .i64 rd) ∧ w'.cell? ⟨g, 2, none⟩ = some (.int .i64 rs1) ∧ w'.cell? ⟨g, 3, none⟩ = some (.int .i64 rs2) ∧ w'.cell? ⟨g, 4, none⟩ = some (.int .i64 imm) ∧ w'.cell? ⟨g, 7, none⟩ = some (.int .i64 pred) ∧ w'.cell? ⟨g, 8, none⟩ = some (.int .i64 succ))
    (first | (exact ⟨by assumption, by assumption, by assumption, by assumption, by assumption, by assumption, by assumption, by assumption⟩) | (exact ⟨Jn.drew (by assumption), by assumption, by assumption, by assumption, by assumption, by assumption, by assumption, by assumption⟩))
    (first
      | (go_at_call 37; (with_reducible refine (KD1 g _ ?_).mono ?_); (first | assumption | exact Jn.drew (by assumption)); rintro e w' ⟨rfl, hJ, d0, d1, d2, d3, d4, d5, d6, d7, d8⟩)
      | (go_at_call 37; (with_reducible refine (KD2 g _ ?_).mono ?_); (first | assumption | exact Jn.drew (by assumption)); rintro e w' ⟨rfl, hJ, d0, d1, d2, d3, d4, d5, d6, d7, d8⟩)
      | (go_at_call 37; (with_reducible refine (KD3 g _ ?_).mono ?_); (first | assumption | exact Jn.drew (by assumption)); rintro e w' ⟨rfl, hJ, d0, d1, d2, d3, d4, d5, d6, d7, d8⟩)
      | (go_at_call 37; (with_reducible refine (KD4 g _ ?_).mono ?_); (first | assumption | exact Jn.drew (by assumption)); rintro e w' ⟨rfl, hJ, d0, d1, d2, d3, d4, d5, d6, d7, d8⟩))
  all_goals go_wp2_with fail
  all_goals go_ret
  all_goals exact ⟨by rw [tx, HE.out]; rfl, Jn.bw' (by assumption)⟩

set_option maxRecDepth 100000 in
set_option maxHeartbeats 20000000 in
theorem text_f (i : Ins) (h : Rgt i) (hk : i.op = 50) (w : World) : Calls Tryz.prog 36 #[insV i] w fun e w' => e = .returned (tx (textT i)) ∧ BW w w' := by
  have hs := srt_spec i.op
  have hop := h.op
  have ho : I64 i.op := ⟨by omega, by omega⟩
  have hrd := h.rd
  have hr1 := h.rs1
  have hr2 := h.rs2
  have hI := imm_I64 h
  have hA := h.at1
  have hF := h.fen
  obtain ⟨op, rd, rs1, rs2, imm, aq, rl, pred, succ⟩ := i
  simp only at hs hop ho hrd hr1 hr2 hI hA hF hk
  clear h
  have hT : textT ⟨op, rd, rs1, rs2, imm, aq, rl, pred, succ⟩ = nmO op ++ annT aq rl ++ ([32] ++ setT pred ++ [44, 32] ++ setT succ) := by
    unfold textT tailT cmS
    simp only
    rw [if_neg (by omega), if_neg (by omega), if_neg (by omega), if_neg (by omega), if_neg (by omega), if_neg (by omega), if_pos (by omega)]
    try simp only [List.append_assoc, List.cons_append, List.nil_append]
  obtain ⟨rfl, rfl⟩ := hA (by omega)
  have HJ0 : Jn w ⟨op, rd, rs1, rs2, imm, false, false, pred, succ⟩ w.heap.size (w.alloc (.cells (insCells ⟨op, rd, rs1, rs2, imm, false, false, pred, succ⟩) 40)) := ⟨BW.new (Below.refl _ _) _, Blk.new _ _ _, Nat.le_refl _⟩
  have KS := fun g w1 (h : Jn w ⟨op, rd, rs1, rs2, imm, false, false, pred, succ⟩ g w1) => (rsort_any op ho.1 ho.2 w1).mono fun e w' (hh : _ ∧ _) => And.intro hh.1 (h.on hh.2)
  have KN := fun g w1 (h : Jn w ⟨op, rd, rs1, rs2, imm, false, false, pred, succ⟩ g w1) => (rname_any op ho.1 ho.2 w1).mono fun e w' (hh : _ ∧ _) => And.intro hh.1 (h.on hh.2)
  subst hk
  have hsk : srt 50 = 8 := by decide
  rw [hsk] at KS
  have KD1 := fun g w1 (h : Jn w ⟨50, rd, rs1, rs2, imm, false, false, pred, succ⟩ g w1) => (rdigits_any rd (by unfold I64; omega) w1).mono fun e w' (hh : _ ∧ _) => And.intro hh.1 (And.intro (h.on hh.2) (h.on hh.2).cells)
  have KD2 := fun g w1 (h : Jn w ⟨50, rd, rs1, rs2, imm, false, false, pred, succ⟩ g w1) => (rdigits_any rs1 (by unfold I64; omega) w1).mono fun e w' (hh : _ ∧ _) => And.intro hh.1 (And.intro (h.on hh.2) (h.on hh.2).cells)
  have KD3 := fun g w1 (h : Jn w ⟨50, rd, rs1, rs2, imm, false, false, pred, succ⟩ g w1) => (rdigits_any rs2 (by unfold I64; omega) w1).mono fun e w' (hh : _ ∧ _) => And.intro hh.1 (And.intro (h.on hh.2) (h.on hh.2).cells)
  have KD4 := fun g w1 (h : Jn w ⟨50, rd, rs1, rs2, imm, false, false, pred, succ⟩ g w1) => (rdigits_any imm (hI) w1).mono fun e w' (hh : _ ∧ _) => And.intro hh.1 (And.intro (h.on hh.2) (h.on hh.2).cells)
  have l1 := regT_len hrd
  have l2 := regT_len hr1
  have l3 := regT_len hr2
  have l4 := digI_len hI
  have x1 : ∀ w2 : World, (Op.stringOp .add (⟨#[120]⟩ : ByteArray) (bs (digI rd))).run Tryz.prog w2 = .ok (.string (bs (regT rd))) w2 := fun w2 => cat [120] (digI rd) (by simp) (by unfold regT at l1; simp at l1; omega) w2
  have x2 : ∀ w2 : World, (Op.stringOp .add (⟨#[120]⟩ : ByteArray) (bs (digI rs1))).run Tryz.prog w2 = .ok (.string (bs (regT rs1))) w2 := fun w2 => cat [120] (digI rs1) (by simp) (by unfold regT at l2; simp at l2; omega) w2
  have x3 : ∀ w2 : World, (Op.stringOp .add (⟨#[120]⟩ : ByteArray) (bs (digI rs2))).run Tryz.prog w2 = .ok (.string (bs (regT rs2))) w2 := fun w2 => cat [120] (digI rs2) (by simp) (by unfold regT at l3; simp at l3; omega) w2
  have hf := hF rfl
  have l5 := setT_len ⟨hf.1, hf.2.1⟩
  have l6 := setT_len ⟨hf.2.2.1, hf.2.2.2⟩
  have KP := fun g w1 (h : Jn w ⟨50, rd, rs1, rs2, imm, false, false, pred, succ⟩ g w1) => (rset_any pred ⟨hf.1, hf.2.1⟩ w1).mono fun e w' (hh : _ ∧ _) => And.intro hh.1 (And.intro (hh.2 ▸ h) (hh.2 ▸ h).cells)
  have KQ := fun g w1 (h : Jn w ⟨50, rd, rs1, rs2, imm, false, false, pred, succ⟩ g w1) => (rset_any succ ⟨hf.2.2.1, hf.2.2.2⟩ w1).mono fun e w' (hh : _ ∧ _) => And.intro hh.1 (And.intro (hh.2 ▸ h) (hh.2 ▸ h).cells)
  have l0 := nmO_len 50
  have HT := Lib.hid hT
  clear hT hA hF hs hop ho
  obtain ⟨S, hS⟩ : ∃ S, nmO 50 = S := ⟨_, rfl⟩
  rw [hS] at KN HT l0
  clear hS
  unfold tx at KN KD1 KD2 KD3 KD4
  generalize digI rd = D1 at KD1 x1
  obtain ⟨R1, hR1⟩ : ∃ R, regT rd = R := ⟨_, rfl⟩
  rw [hR1] at l1 x1
  generalize digI rs1 = D2 at KD2 x2
  obtain ⟨R2, hR2⟩ : ∃ R, regT rs1 = R := ⟨_, rfl⟩
  rw [hR2] at l2 x2
  generalize digI rs2 = D3 at KD3 x3
  obtain ⟨R3, hR3⟩ : ∃ R, regT rs2 = R := ⟨_, rfl⟩
  rw [hR3] at l3 x3
  obtain ⟨D4, hD4⟩ : ∃ R, digI imm = R := ⟨_, rfl⟩
  rw [hD4] at l4 KD4
  unfold tx at KP KQ
  obtain ⟨SP, hSP⟩ : ∃ R, setT pred = R := ⟨_, rfl⟩
  obtain ⟨SS, hSS⟩ : ∃ R, setT succ = R := ⟨_, rfl⟩
  rw [hSP] at l5 KP
  rw [hSS] at l6 KQ
  have HT : Hid (textT ⟨50, rd, rs1, rs2, imm, false, false, pred, succ⟩ = S ++ annT false false ++ ([32] ++ SP ++ [44, 32] ++ SS)) := by have := HT.out; rw [hSP, hSS] at this; exact this
  clear hR1 hR2 hR3 hD4 hSP hSS
  have HT : Hid (textT ⟨50, rd, rs1, rs2, imm, false, false, pred, succ⟩ = S ++ ([32] ++ SP ++ [44, 32] ++ SS)) := by have := HT.out; rw [show annT false false = [] from rfl, List.append_nil] at this; exact this
  have f0 : ∀ w2 : World, (Op.stringOp .add (bs S) (⟨#[32]⟩ : ByteArray)).run Tryz.prog w2 = .ok (.string (bs (S ++ [32]))) w2 := fun w2 => cat S [32] (by first | omega | (simp; omega)) (by first | omega | simp) w2
  have f1 : ∀ w2 : World, (Op.stringOp .add (bs (S ++ [32])) (bs SP)).run Tryz.prog w2 = .ok (.string (bs (S ++ [32] ++ SP))) w2 := fun w2 => cat (S ++ [32]) SP (by first | omega | (simp; omega)) (by omega) w2
  have f2 : ∀ w2 : World, (Op.stringOp .add (bs (S ++ [32] ++ SP)) (⟨#[44, 32]⟩ : ByteArray)).run Tryz.prog w2 = .ok (.string (bs (S ++ [32] ++ SP ++ [44, 32]))) w2 := fun w2 => cat (S ++ [32] ++ SP) [44, 32] (by first | omega | (simp; omega)) (by first | omega | simp) w2
  have f3 : ∀ w2 : World, (Op.stringOp .add (bs (S ++ [32] ++ SP ++ [44, 32])) (bs SS)).run Tryz.prog w2 = .ok (.string (bs (S ++ [32] ++ SP ++ [44, 32] ++ SS))) w2 := fun w2 => cat (S ++ [32] ++ SP ++ [44, 32]) SS (by first | omega | (simp; omega)) (by omega) w2
  have hE : bs (textT ⟨50, rd, rs1, rs2, imm, false, false, pred, succ⟩) = bs (S ++ [32] ++ SP ++ [44, 32] ++ SS) := by rw [HT.out]; simp
  clear HT
  generalize bs (S ++ [32] ++ SP ++ [44, 32] ++ SS) = q3 at f3 hE
  generalize bs (S ++ [32] ++ SP ++ [44, 32]) = q2 at f2 f3
  generalize bs (S ++ [32] ++ SP) = q1 at f1 f2
  generalize bs (S ++ [32]) = q0 at f0 f1
  have HE := Lib.hid hE
  clear hE
  clear l0 l1 l2 l3 l4 l5 l6
  unfold insV
  unfold insCells at HJ0
  go_enter Tryz.func36, Tryz.ntmps36
  go_upto_region 1 with (fail)
  generalize w.alloc (.cells _ 40) = w1 at *
  obtain ⟨g, hg⟩ : ∃ g, w.heap.size = g := ⟨_, rfl⟩
  rw [hg] at HJ0 ⊢
  have HG := Lib.hid hg
  clear hg
  obtain ⟨c0, c1, c2, c3, c4, c5, c6, c7, c8⟩ := HJ0.cells
  go_upto_region 2 with (first
    | (go_at_call 46; refine (KS g _ HJ0).mono ?_; rintro e w2 ⟨rfl, HJ1⟩))
  clear c0 c1 c2 c3 c4 c5 c6 c7 c8 HJ0
  obtain ⟨c0, c1, c2, c3, c4, c5, c6, c7, c8⟩ := HJ1.cells
  go_upto_region 3 with (first
    | (go_at_call 58; refine (KN g _ HJ1).mono ?_; rintro e w3 ⟨rfl, HJ2⟩))
  clear c0 c1 c2 c3 c4 c5 c6 c7 c8 HJ1
  obtain ⟨c0, c1, c2, c3, c4, c5, c6, c7, c8⟩ := HJ2.cells
  go_upto_region 9 with fail
  clear c5 c6 KS KN
  go_region_held3 (fun w' => Jn w ⟨50, rd, rs1, rs2, imm, false, false, pred, succ⟩ g w' ∧ w'.cell? ⟨g, 0, none⟩ = some (.int .i64 50) ∧ w'.cell? ⟨g, 1, none⟩ = some (.int .i64 rd) ∧ w'.cell? ⟨g, 2, none⟩ = some (.int .i64 rs1) ∧ w'.cell? ⟨g, 3, none⟩ = some (.int .i64 rs2) ∧ w'.cell? ⟨g, 4, none⟩ = some (.int .i64 imm) ∧ w'.cell? ⟨g, 7, none⟩ = some (.int .i64 pred) ∧ w'.cell? ⟨g, 8, none⟩ = some (.int .i64 succ))
    (first | (exact ⟨by assumption, by assumption, by assumption, by assumption, by assumption, by assumption, by assumption, by assumption⟩) | (exact ⟨Jn.drew (by assumption), by assumption, by assumption, by assumption, by assumption, by assumption, by assumption, by assumption⟩))
    (first
      | (go_at_call 37; (with_reducible refine (KD1 g _ ?_).mono ?_); (first | assumption | exact Jn.drew (by assumption)); rintro e w' ⟨rfl, hJ, d0, d1, d2, d3, d4, d5, d6, d7, d8⟩)
      | (go_at_call 37; (with_reducible refine (KD2 g _ ?_).mono ?_); (first | assumption | exact Jn.drew (by assumption)); rintro e w' ⟨rfl, hJ, d0, d1, d2, d3, d4, d5, d6, d7, d8⟩)
      | (go_at_call 37; (with_reducible refine (KD3 g _ ?_).mono ?_); (first | assumption | exact Jn.drew (by assumption)); rintro e w' ⟨rfl, hJ, d0, d1, d2, d3, d4, d5, d6, d7, d8⟩)
      | (go_at_call 37; (with_reducible refine (KD4 g _ ?_).mono ?_); (first | assumption | exact Jn.drew (by assumption)); rintro e w' ⟨rfl, hJ, d0, d1, d2, d3, d4, d5, d6, d7, d8⟩))
  all_goals go_upto_region 23 with fail
  all_goals go_region_held3 (fun w' => Jn w ⟨50, rd, rs1, rs2, imm, false, false, pred, succ⟩ g w' ∧ w'.cell? ⟨g, 0, none⟩ = some (.int .i64 50) ∧ w'.cell? ⟨g, 1, none⟩ = some (.int .i64 rd) ∧ w'.cell? ⟨g, 2, none⟩ = some (.int .i64 rs1) ∧ w'.cell? ⟨g, 3, none⟩ = some (.int .i64 rs2) ∧ w'.cell? ⟨g, 4, none⟩ = some (.int .i64 imm) ∧ w'.cell? ⟨g, 7, none⟩ = some (.int .i64 pred) ∧ w'.cell? ⟨g, 8, none⟩ = some (.int .i64 succ))
    (first | (exact ⟨by assumption, by assumption, by assumption, by assumption, by assumption, by assumption, by assumption, by assumption⟩) | (exact ⟨Jn.drew (by assumption), by assumption, by assumption, by assumption, by assumption, by assumption, by assumption, by assumption⟩))
    (first
      | (go_at_call 78; (with_reducible refine (KP g _ ?_).mono ?_); (first | assumption | exact Jn.drew (by assumption)); rintro e w' ⟨rfl, hJ, d0, d1, d2, d3, d4, d5, d6, d7, d8⟩)
      | (go_at_call 78; (with_reducible refine (KQ g _ ?_).mono ?_); (first | assumption | exact Jn.drew (by assumption)); rintro e w' ⟨rfl, hJ, d0, d1, d2, d3, d4, d5, d6, d7, d8⟩))
  all_goals go_wp2_with fail
  all_goals go_ret
  all_goals exact ⟨by rw [tx, HE.out]; rfl, Jn.bw' (by assumption)⟩

set_option maxRecDepth 100000 in
set_option maxHeartbeats 20000000 in
theorem text_t (i : Ins) (h : Rgt i) (hk : i.op = 51) (w : World) : Calls Tryz.prog 36 #[insV i] w fun e w' => e = .returned (tx (textT i)) ∧ BW w w' := by
  have hs := srt_spec i.op
  have hop := h.op
  have ho : I64 i.op := ⟨by omega, by omega⟩
  have hrd := h.rd
  have hr1 := h.rs1
  have hr2 := h.rs2
  have hI := imm_I64 h
  have hA := h.at1
  have hF := h.fen
  obtain ⟨op, rd, rs1, rs2, imm, aq, rl, pred, succ⟩ := i
  simp only at hs hop ho hrd hr1 hr2 hI hA hF hk
  clear h
  have hT : textT ⟨op, rd, rs1, rs2, imm, aq, rl, pred, succ⟩ = nmO op ++ annT aq rl ++ ([]) := by
    unfold textT tailT cmS
    simp only
    rw [if_neg (by omega), if_neg (by omega), if_neg (by omega), if_neg (by omega), if_neg (by omega), if_neg (by omega), if_neg (by omega), if_neg (by omega), if_neg (by omega)]
    try simp only [List.append_assoc, List.cons_append, List.nil_append]
  obtain ⟨rfl, rfl⟩ := hA (by omega)
  have HJ0 : Jn w ⟨op, rd, rs1, rs2, imm, false, false, pred, succ⟩ w.heap.size (w.alloc (.cells (insCells ⟨op, rd, rs1, rs2, imm, false, false, pred, succ⟩) 40)) := ⟨BW.new (Below.refl _ _) _, Blk.new _ _ _, Nat.le_refl _⟩
  have KS := fun g w1 (h : Jn w ⟨op, rd, rs1, rs2, imm, false, false, pred, succ⟩ g w1) => (rsort_any op ho.1 ho.2 w1).mono fun e w' (hh : _ ∧ _) => And.intro hh.1 (h.on hh.2)
  have KN := fun g w1 (h : Jn w ⟨op, rd, rs1, rs2, imm, false, false, pred, succ⟩ g w1) => (rname_any op ho.1 ho.2 w1).mono fun e w' (hh : _ ∧ _) => And.intro hh.1 (h.on hh.2)
  subst hk
  have hsk : srt 51 = 8 := by decide
  rw [hsk] at KS
  have KD1 := fun g w1 (h : Jn w ⟨51, rd, rs1, rs2, imm, false, false, pred, succ⟩ g w1) => (rdigits_any rd (by unfold I64; omega) w1).mono fun e w' (hh : _ ∧ _) => And.intro hh.1 (And.intro (h.on hh.2) (h.on hh.2).cells)
  have KD2 := fun g w1 (h : Jn w ⟨51, rd, rs1, rs2, imm, false, false, pred, succ⟩ g w1) => (rdigits_any rs1 (by unfold I64; omega) w1).mono fun e w' (hh : _ ∧ _) => And.intro hh.1 (And.intro (h.on hh.2) (h.on hh.2).cells)
  have KD3 := fun g w1 (h : Jn w ⟨51, rd, rs1, rs2, imm, false, false, pred, succ⟩ g w1) => (rdigits_any rs2 (by unfold I64; omega) w1).mono fun e w' (hh : _ ∧ _) => And.intro hh.1 (And.intro (h.on hh.2) (h.on hh.2).cells)
  have KD4 := fun g w1 (h : Jn w ⟨51, rd, rs1, rs2, imm, false, false, pred, succ⟩ g w1) => (rdigits_any imm (hI) w1).mono fun e w' (hh : _ ∧ _) => And.intro hh.1 (And.intro (h.on hh.2) (h.on hh.2).cells)
  have l1 := regT_len hrd
  have l2 := regT_len hr1
  have l3 := regT_len hr2
  have l4 := digI_len hI
  have x1 : ∀ w2 : World, (Op.stringOp .add (⟨#[120]⟩ : ByteArray) (bs (digI rd))).run Tryz.prog w2 = .ok (.string (bs (regT rd))) w2 := fun w2 => cat [120] (digI rd) (by simp) (by unfold regT at l1; simp at l1; omega) w2
  have x2 : ∀ w2 : World, (Op.stringOp .add (⟨#[120]⟩ : ByteArray) (bs (digI rs1))).run Tryz.prog w2 = .ok (.string (bs (regT rs1))) w2 := fun w2 => cat [120] (digI rs1) (by simp) (by unfold regT at l2; simp at l2; omega) w2
  have x3 : ∀ w2 : World, (Op.stringOp .add (⟨#[120]⟩ : ByteArray) (bs (digI rs2))).run Tryz.prog w2 = .ok (.string (bs (regT rs2))) w2 := fun w2 => cat [120] (digI rs2) (by simp) (by unfold regT at l3; simp at l3; omega) w2
  have l0 := nmO_len 51
  have HT := Lib.hid hT
  clear hT hA hF hs hop ho
  obtain ⟨S, hS⟩ : ∃ S, nmO 51 = S := ⟨_, rfl⟩
  rw [hS] at KN HT l0
  clear hS
  unfold tx at KN KD1 KD2 KD3 KD4
  generalize digI rd = D1 at KD1 x1
  obtain ⟨R1, hR1⟩ : ∃ R, regT rd = R := ⟨_, rfl⟩
  rw [hR1] at l1 x1
  generalize digI rs1 = D2 at KD2 x2
  obtain ⟨R2, hR2⟩ : ∃ R, regT rs1 = R := ⟨_, rfl⟩
  rw [hR2] at l2 x2
  generalize digI rs2 = D3 at KD3 x3
  obtain ⟨R3, hR3⟩ : ∃ R, regT rs2 = R := ⟨_, rfl⟩
  rw [hR3] at l3 x3
  obtain ⟨D4, hD4⟩ : ∃ R, digI imm = R := ⟨_, rfl⟩
  rw [hD4] at l4 KD4
  clear hR1 hR2 hR3 hD4
  have HT : Hid (textT ⟨51, rd, rs1, rs2, imm, false, false, pred, succ⟩ = S ++ ([])) := by have := HT.out; rw [show annT false false = [] from rfl, List.append_nil] at this; exact this
  have hE : bs (textT ⟨51, rd, rs1, rs2, imm, false, false, pred, succ⟩) = bs (S) := by rw [HT.out]; simp
  clear HT
  have HE := Lib.hid hE
  clear hE
  clear l0 l1 l2 l3 l4
  unfold insV
  unfold insCells at HJ0
  go_enter Tryz.func36, Tryz.ntmps36
  go_upto_region 1 with (fail)
  generalize w.alloc (.cells _ 40) = w1 at *
  obtain ⟨g, hg⟩ : ∃ g, w.heap.size = g := ⟨_, rfl⟩
  rw [hg] at HJ0 ⊢
  have HG := Lib.hid hg
  clear hg
  obtain ⟨c0, c1, c2, c3, c4, c5, c6, c7, c8⟩ := HJ0.cells
  go_upto_region 2 with (first
    | (go_at_call 46; refine (KS g _ HJ0).mono ?_; rintro e w2 ⟨rfl, HJ1⟩))
  clear c0 c1 c2 c3 c4 c5 c6 c7 c8 HJ0
  obtain ⟨c0, c1, c2, c3, c4, c5, c6, c7, c8⟩ := HJ1.cells
  go_upto_region 3 with (first
    | (go_at_call 58; refine (KN g _ HJ1).mono ?_; rintro e w3 ⟨rfl, HJ2⟩))
  clear c0 c1 c2 c3 c4 c5 c6 c7 c8 HJ1
  obtain ⟨c0, c1, c2, c3, c4, c5, c6, c7, c8⟩ := HJ2.cells
  go_upto_region 9 with fail
  clear c5 c6 KS KN
  go_region_held3 (fun w' => Jn w ⟨51, rd, rs1, rs2, imm, false, false, pred, succ⟩ g w' ∧ w'.cell? ⟨g, 0, none⟩ = some (.int .i64 51) ∧ w'.cell? ⟨g, 1, none⟩ = some (.int .i64 rd) ∧ w'.cell? ⟨g, 2, none⟩ = some (.int .i64 rs1) ∧ w'.cell? ⟨g, 3, none⟩ = some (.int .i64 rs2) ∧ w'.cell? ⟨g, 4, none⟩ = some (.int .i64 imm) ∧ w'.cell? ⟨g, 7, none⟩ = some (.int .i64 pred) ∧ w'.cell? ⟨g, 8, none⟩ = some (.int .i64 succ))
    (first | (exact ⟨by assumption, by assumption, by assumption, by assumption, by assumption, by assumption, by assumption, by assumption⟩) | (exact ⟨Jn.drew (by assumption), by assumption, by assumption, by assumption, by assumption, by assumption, by assumption, by assumption⟩))
    (first
      | (go_at_call 37; (with_reducible refine (KD1 g _ ?_).mono ?_); (first | assumption | exact Jn.drew (by assumption)); rintro e w' ⟨rfl, hJ, d0, d1, d2, d3, d4, d5, d6, d7, d8⟩)
      | (go_at_call 37; (with_reducible refine (KD2 g _ ?_).mono ?_); (first | assumption | exact Jn.drew (by assumption)); rintro e w' ⟨rfl, hJ, d0, d1, d2, d3, d4, d5, d6, d7, d8⟩)
      | (go_at_call 37; (with_reducible refine (KD3 g _ ?_).mono ?_); (first | assumption | exact Jn.drew (by assumption)); rintro e w' ⟨rfl, hJ, d0, d1, d2, d3, d4, d5, d6, d7, d8⟩)
      | (go_at_call 37; (with_reducible refine (KD4 g _ ?_).mono ?_); (first | assumption | exact Jn.drew (by assumption)); rintro e w' ⟨rfl, hJ, d0, d1, d2, d3, d4, d5, d6, d7, d8⟩))
  all_goals go_wp2_with fail
  all_goals go_ret
  all_goals exact ⟨by rw [tx, HE.out]; rfl, Jn.bw' (by assumption)⟩

set_option maxRecDepth 100000 in
set_option maxHeartbeats 20000000 in
theorem text_h (i : Ins) (h : Rgt i) (hk : srt i.op = 9) (w : World) : Calls Tryz.prog 36 #[insV i] w fun e w' => e = .returned (tx (textT i)) ∧ BW w w' := by
  have hs := srt_spec i.op
  have hop := h.op
  have ho : I64 i.op := ⟨by omega, by omega⟩
  have hrd := h.rd
  have hr1 := h.rs1
  have hr2 := h.rs2
  have hI := imm_I64 h
  have hA := h.at1
  have hF := h.fen
  obtain ⟨op, rd, rs1, rs2, imm, aq, rl, pred, succ⟩ := i
  simp only at hs hop ho hrd hr1 hr2 hI hA hF hk
  clear h
  have hT : textT ⟨op, rd, rs1, rs2, imm, aq, rl, pred, succ⟩ = nmO op ++ annT aq rl ++ ([]) := by
    unfold textT tailT cmS
    simp only
    rw [if_neg (by omega), if_neg (by omega), if_neg (by omega), if_neg (by omega), if_neg (by omega), if_neg (by omega), if_neg (by omega), if_neg (by omega), if_neg (by omega)]
    try simp only [List.append_assoc, List.cons_append, List.nil_append]
  obtain ⟨rfl, rfl⟩ := hA (by omega)
  have HJ0 : Jn w ⟨op, rd, rs1, rs2, imm, false, false, pred, succ⟩ w.heap.size (w.alloc (.cells (insCells ⟨op, rd, rs1, rs2, imm, false, false, pred, succ⟩) 40)) := ⟨BW.new (Below.refl _ _) _, Blk.new _ _ _, Nat.le_refl _⟩
  have KS := fun g w1 (h : Jn w ⟨op, rd, rs1, rs2, imm, false, false, pred, succ⟩ g w1) => (rsort_any op ho.1 ho.2 w1).mono fun e w' (hh : _ ∧ _) => And.intro hh.1 (h.on hh.2)
  have KN := fun g w1 (h : Jn w ⟨op, rd, rs1, rs2, imm, false, false, pred, succ⟩ g w1) => (rname_any op ho.1 ho.2 w1).mono fun e w' (hh : _ ∧ _) => And.intro hh.1 (h.on hh.2)
  rw [hk] at KS
  have n3 : (op == 3) = false := by rw [beq_eq_false_iff_ne]; omega
  have n50 : (op == 50) = false := by rw [beq_eq_false_iff_ne]; omega
  have KD1 := fun g w1 (h : Jn w ⟨op, rd, rs1, rs2, imm, false, false, pred, succ⟩ g w1) => (rdigits_any rd (by unfold I64; omega) w1).mono fun e w' (hh : _ ∧ _) => And.intro hh.1 (And.intro (h.on hh.2) (h.on hh.2).cells)
  have KD2 := fun g w1 (h : Jn w ⟨op, rd, rs1, rs2, imm, false, false, pred, succ⟩ g w1) => (rdigits_any rs1 (by unfold I64; omega) w1).mono fun e w' (hh : _ ∧ _) => And.intro hh.1 (And.intro (h.on hh.2) (h.on hh.2).cells)
  have KD3 := fun g w1 (h : Jn w ⟨op, rd, rs1, rs2, imm, false, false, pred, succ⟩ g w1) => (rdigits_any rs2 (by unfold I64; omega) w1).mono fun e w' (hh : _ ∧ _) => And.intro hh.1 (And.intro (h.on hh.2) (h.on hh.2).cells)
  have KD4 := fun g w1 (h : Jn w ⟨op, rd, rs1, rs2, imm, false, false, pred, succ⟩ g w1) => (rdigits_any imm (hI) w1).mono fun e w' (hh : _ ∧ _) => And.intro hh.1 (And.intro (h.on hh.2) (h.on hh.2).cells)
  have l1 := regT_len hrd
  have l2 := regT_len hr1
  have l3 := regT_len hr2
  have l4 := digI_len hI
  have x1 : ∀ w2 : World, (Op.stringOp .add (⟨#[120]⟩ : ByteArray) (bs (digI rd))).run Tryz.prog w2 = .ok (.string (bs (regT rd))) w2 := fun w2 => cat [120] (digI rd) (by simp) (by unfold regT at l1; simp at l1; omega) w2
  have x2 : ∀ w2 : World, (Op.stringOp .add (⟨#[120]⟩ : ByteArray) (bs (digI rs1))).run Tryz.prog w2 = .ok (.string (bs (regT rs1))) w2 := fun w2 => cat [120] (digI rs1) (by simp) (by unfold regT at l2; simp at l2; omega) w2
  have x3 : ∀ w2 : World, (Op.stringOp .add (⟨#[120]⟩ : ByteArray) (bs (digI rs2))).run Tryz.prog w2 = .ok (.string (bs (regT rs2))) w2 := fun w2 => cat [120] (digI rs2) (by simp) (by unfold regT at l3; simp at l3; omega) w2
  have l0 := nmO_len op
  have HT := Lib.hid hT
  clear hT hA hF hs hop ho
  obtain ⟨S, hS⟩ : ∃ S, nmO op = S := ⟨_, rfl⟩
  rw [hS] at KN HT l0
  clear hS
  unfold tx at KN KD1 KD2 KD3 KD4
  generalize digI rd = D1 at KD1 x1
  obtain ⟨R1, hR1⟩ : ∃ R, regT rd = R := ⟨_, rfl⟩
  rw [hR1] at l1 x1
  generalize digI rs1 = D2 at KD2 x2
  obtain ⟨R2, hR2⟩ : ∃ R, regT rs1 = R := ⟨_, rfl⟩
  rw [hR2] at l2 x2
  generalize digI rs2 = D3 at KD3 x3
  obtain ⟨R3, hR3⟩ : ∃ R, regT rs2 = R := ⟨_, rfl⟩
  rw [hR3] at l3 x3
  obtain ⟨D4, hD4⟩ : ∃ R, digI imm = R := ⟨_, rfl⟩
  rw [hD4] at l4 KD4
  clear hR1 hR2 hR3 hD4
  have HT : Hid (textT ⟨op, rd, rs1, rs2, imm, false, false, pred, succ⟩ = S ++ ([])) := by have := HT.out; rw [show annT false false = [] from rfl, List.append_nil] at this; exact this
  have hE : bs (textT ⟨op, rd, rs1, rs2, imm, false, false, pred, succ⟩) = bs (S) := by rw [HT.out]; simp
  clear HT
  have HE := Lib.hid hE
  clear hE
  clear l0 l1 l2 l3 l4
  unfold insV
  unfold insCells at HJ0
  go_enter Tryz.func36, Tryz.ntmps36
  go_upto_region 1 with (fail)
  generalize w.alloc (.cells _ 40) = w1 at *
  obtain ⟨g, hg⟩ : ∃ g, w.heap.size = g := ⟨_, rfl⟩
  rw [hg] at HJ0 ⊢
  have HG := Lib.hid hg
  clear hg
  obtain ⟨c0, c1, c2, c3, c4, c5, c6, c7, c8⟩ := HJ0.cells
  go_upto_region 2 with (first
    | (go_at_call 46; refine (KS g _ HJ0).mono ?_; rintro e w2 ⟨rfl, HJ1⟩))
  clear c0 c1 c2 c3 c4 c5 c6 c7 c8 HJ0
  obtain ⟨c0, c1, c2, c3, c4, c5, c6, c7, c8⟩ := HJ1.cells
  go_upto_region 3 with (first
    | (go_at_call 58; refine (KN g _ HJ1).mono ?_; rintro e w3 ⟨rfl, HJ2⟩))
  clear c0 c1 c2 c3 c4 c5 c6 c7 c8 HJ1
  obtain ⟨c0, c1, c2, c3, c4, c5, c6, c7, c8⟩ := HJ2.cells
  go_upto_region 9 with fail
  clear c5 c6 KS KN
  go_region_held3 (fun w' => Jn w ⟨op, rd, rs1, rs2, imm, false, false, pred, succ⟩ g w' ∧ w'.cell? ⟨g, 0, none⟩ = some (.int .i64 op) ∧ w'.cell? ⟨g, 1, none⟩ = some (.int .i64 rd) ∧ w'.cell? ⟨g, 2, none⟩ = some (.int .i64 rs1) ∧ w'.cell? ⟨g, 3, none⟩ = some (.int .i64 rs2) ∧ w'.cell? ⟨g, 4, none⟩ = some (.int .i64 imm) ∧ w'.cell? ⟨g, 7, none⟩ = some (.int .i64 pred) ∧ w'.cell? ⟨g, 8, none⟩ = some (.int .i64 succ))
    (first | (exact ⟨by assumption, by assumption, by assumption, by assumption, by assumption, by assumption, by assumption, by assumption⟩) | (exact ⟨Jn.drew (by assumption), by assumption, by assumption, by assumption, by assumption, by assumption, by assumption, by assumption⟩))
    (first
      | (go_at_call 37; (with_reducible refine (KD1 g _ ?_).mono ?_); (first | assumption | exact Jn.drew (by assumption)); rintro e w' ⟨rfl, hJ, d0, d1, d2, d3, d4, d5, d6, d7, d8⟩)
      | (go_at_call 37; (with_reducible refine (KD2 g _ ?_).mono ?_); (first | assumption | exact Jn.drew (by assumption)); rintro e w' ⟨rfl, hJ, d0, d1, d2, d3, d4, d5, d6, d7, d8⟩)
      | (go_at_call 37; (with_reducible refine (KD3 g _ ?_).mono ?_); (first | assumption | exact Jn.drew (by assumption)); rintro e w' ⟨rfl, hJ, d0, d1, d2, d3, d4, d5, d6, d7, d8⟩)
      | (go_at_call 37; (with_reducible refine (KD4 g _ ?_).mono ?_); (first | assumption | exact Jn.drew (by assumption)); rintro e w' ⟨rfl, hJ, d0, d1, d2, d3, d4, d5, d6, d7, d8⟩))
  all_goals go_wp2_with fail
  all_goals go_ret
  all_goals exact ⟨by rw [tx, HE.out]; rfl, Jn.bw' (by assumption)⟩
end Go.Proofs.YtolmecnjolfjgaaGreatDoor
