/- The contract of the document's Word, at instructions that are right. -/
import Derived.Test.YtolmecnjolfjgaaGreatDoorRows
import Derived.Test.YtolmecnjolfjgaaGreatDoorEwl
import Derived.Test.YtolmecnjolfjgaaGreatDoorJnl
import Derived.Test.YtolmecnjolfjgaaGreatDoorOcl
import Derived.Test.YtolmecnjolfjgaaGreatDoorRpl
import Derived.WalkKit
import Derived.WalkLawsBesides
import Derived.Deep.QuietTactic
import Derived.BigQuiet
import Derived.WalkSmall
import Derived.WalkSpells
import Derived.Lib.Hide
import Derived.Below
import Derived.Outline
import Derived.Deep.Cut
import Derived.Deep.CutRange
import Derived.Deep.RegionHeld3
import Derived.Deep.DeepCutAuto
set_option maxRecDepth 100000
namespace Go.Proofs.YtolmecnjolfjgaaGreatDoor
open Go.RowKit

theorem wu32 {x : Int} (h : 0 ≤ x ∧ x < 4294967296) : IntKind.u32.wrap x = x := by rw [IntKind.wrap_u32]; omega
set_option maxHeartbeats 4000000 in
set_option maxRecDepth 100000 in
theorem word_any (i : Ins) (h : Rgt i) (w : World) : Calls Tryz.prog 35 #[insV i] w fun e w' => e = .returned (.int .u32 (wordV i)) ∧ BW w w' := by
  have hop := h.op
  have HJ0 : Jn w i w.heap.size (w.alloc (.cells (insCells i) 40)) := ⟨BW.new (Below.refl _ _) _, Blk.new _ _ _, Nat.le_refl _⟩
  have KS := fun g w1 (h : Jn w i g w1) => (rsort_any i.op (by omega) (by omega) w1).mono fun e w' (hh : _ ∧ _) => And.intro hh.1 (h.on hh.2)
  have KO := fun g w1 (h : Jn w i g w1) => (oc_any i.op hop w1).mono fun e w' (hh : _ ∧ _) => And.intro hh.1 (And.intro (h.on hh.2) (h.on hh.2).cells)
  have K3 := fun g w1 (h : Jn w i g w1) => (fc_any i.op hop w1).mono fun e w' (hh : _ ∧ _) => And.intro hh.1 (And.intro (h.on hh.2) (h.on hh.2).cells)
  have KT := fun g w1 (h : Jn w i g w1) => (tu_any i.op hop w1).mono fun e w' (hh : _ ∧ _) => And.intro hh.1 (h.on hh.2)
  have KH := fun g w1 (h : Jn w i g w1) => (sh_any i.op hop w1).mono fun e w' (hh : _ ∧ _) => And.intro hh.1 (h.on hh.2)
  have KM := fun g w1 (h : Jn w i g w1) => (fm_any i.op hop w1).mono fun e w' (hh : _ ∧ _) => And.intro hh.1 (h.on hh.2)
  have KP := fun f g w1 (h : Jn w i g w1) => (rput_any f i.imm w1).mono fun e w' (hh : _ ∧ _) => And.intro hh.1 (h.on hh.2)
  have KV := fun (h5 : 54 ≤ i.op) g w1 (h : Jn w i g w1) => (fv_any i.op ⟨h5, hop.2⟩ w1).mono fun e w' (hh : _ ∧ _) => And.intro hh.1 (h.on hh.2)
  obtain ⟨k, hk, hke⟩ : ∃ k : Nat, k < 75 ∧ i.op = (k : Int) + 1 := ⟨i.op.toNat - 1, by omega, by omega⟩
  obtain ⟨c0, c1, f0, f1, a0, a1⟩ := cm_rng ⟨k, hk⟩
  simp only [← hke] at c0 c1 f0 f1 a0 a1
  have hrd := h.rd
  have hr1 := h.rs1
  have hr2 := h.rs2
  have HRG := Lib.hid h
  have HKE := Lib.hid hke
  clear h hke
  unfold insV
  unfold insCells at HJ0
  go_enter Tryz.func35, Tryz.ntmps35
  go_upto_region 1 with (fail)
  generalize w.alloc (.cells _ 40) = w1 at *
  obtain ⟨g, hg⟩ : ∃ g, w.heap.size = g := ⟨_, rfl⟩
  rw [hg] at HJ0 ⊢
  clear hg
  obtain ⟨q0, q1, q2, q3, q4, q5, q6, q7, q8⟩ := HJ0.cells
  go_upto_region 2 with (first
    | (go_at_call 46; refine (KS g _ HJ0).mono ?_; rintro e w2 ⟨rfl, HJ⟩))
  clear q0 q1 q2 q3 q4 q5 q6 q7 q8 HJ0 KS
  obtain ⟨q0, q1, q2, q3, q4, q5, q6, q7, q8⟩ := HJ.cells
  go_cut [0, 4] from 6 (fun _ s4 wx => Jn w i g wx ∧ s4 = .int .u32 (ocV i.op + i.rd * 128 + f3V i.op * 4096 + i.rs1 * 32768 + i.rs2 * 1048576))
  case first => as_aux_lemma =>
    clear KT KH KM KP KV a0 a1
    generalize ocV i.op = oc at *
    generalize f3V i.op = f3 at *
    have e1 := wu32 (x := i.rd) (by omega)
    have e2 := wu32 (x := i.rd * 128) (by omega)
    have e3 := wu32 (x := oc + i.rd * 128) (by omega)
    have e4 := wu32 (x := f3 * 4096) (by omega)
    have e5 := wu32 (x := oc + i.rd * 128 + f3 * 4096) (by omega)
    have e6 := wu32 (x := i.rs1) (by omega)
    have e7 := wu32 (x := i.rs1 * 32768) (by omega)
    have e8 := wu32 (x := oc + i.rd * 128 + f3 * 4096 + i.rs1 * 32768) (by omega)
    have e9 := wu32 (x := i.rs2) (by omega)
    have e10 := wu32 (x := i.rs2 * 1048576) (by omega)
    have e11 := wu32 (x := oc + i.rd * 128 + f3 * 4096 + i.rs1 * 32768 + i.rs2 * 1048576) (by omega)
    clear q4 q5 q6 q7 q8
    go_region_held3 (fun w' => Jn w i g w' ∧ w'.cell? ⟨g, 0, none⟩ = some (.int .i64 i.op) ∧ w'.cell? ⟨g, 1, none⟩ = some (.int .i64 i.rd) ∧ w'.cell? ⟨g, 2, none⟩ = some (.int .i64 i.rs1) ∧ w'.cell? ⟨g, 3, none⟩ = some (.int .i64 i.rs2))
      (first | (exact ⟨by assumption, by assumption, by assumption, by assumption, by assumption⟩) | (exact ⟨Jn.drew (by assumption), by assumption, by assumption, by assumption, by assumption⟩) | (refine ⟨?_, ?_, ?_, ?_, ?_⟩ <;> go_keep))
      (first
        | (go_at_call 73; refine (KO g _ ?_).mono ?_; (first | assumption | exact Jn.drew (by assumption)); rintro e w' ⟨rfl, hJ3, b0, b1, b2, b3, b4, b5, b6, b7, b8⟩)
        | (go_at_call 74; refine (K3 g _ ?_).mono ?_; (first | assumption | exact Jn.drew (by assumption)); rintro e w' ⟨rfl, hJ3, b0, b1, b2, b3, b4, b5, b6, b7, b8⟩))
    all_goals go_wp2_with fail
    all_goals
      go_meet
      case rel => exact ⟨by assumption, rfl⟩
  case rest =>
    obtain ⟨HJC, rfl⟩ := hcut
    clear q0 q1 q2 q3 q4 q5 q6 q7 q8 HJ KO K3
    have HJ := HJC
    clear HJC
    obtain ⟨q0, _, _, _, q4, q5, q6, q7, q8⟩ := HJ.cells
    have h53 := cm_53 ⟨k, hk⟩
    simp only [← HKE.out] at h53
    obtain ⟨B, hB⟩ : ∃ B, ocV i.op + i.rd * 128 + f3V i.op * 4096 + i.rs1 * 32768 + i.rs2 * 1048576 = B := ⟨_, rfl⟩
    have hB0 : 0 ≤ B ∧ B ≤ 33554431 := by omega
    rw [hB]
    rcases cl_num k hk with hc | hc | hc | hc | hc | hc | hc | hc | hc | hc | hc | hc | hc
    · as_aux_lemma =>
      obtain ⟨k1, k2, k3, k4, k5, k6, k7, k8⟩ := cls_0 ⟨k, hk⟩ hc
      obtain ⟨m1, m2, m3⟩ := cm_0 ⟨k, hk⟩ (.inl hc)
      simp only [← HKE.out] at k1 k2 k3 k4 k5 k6 k7 k8 m1 m2 m3
      have h53 := h53 (by show clL.getD k 99 ≠ 10; omega)
      have z1 := HRG.out.fir k2
      have z2 := HRG.out.sec k3
      have hB1 : B ≤ 4095 := by omega
      have hM : May 4 i.imm := by have := HRG.out.may (by rw [k4]; decide); rw [k4] at this; exact this
      obtain ⟨u1, u2, u3, u4⟩ := put_keep (f := 4) (by decide) (by decide) hM
      simp only [Int.cast_ofNat_Int] at u1 u2 u3 u4
      have KP := KP 4
      obtain ⟨P, hP⟩ : ∃ P, putK 4 (i.imm % 18446744073709551616) 32 = P := ⟨_, rfl⟩
      rw [hP] at u1 u2 u3 u4 KP
      have hPb : P ≤ 4294963200 := by
        have u := u2
        rw [keep_4] at u
        omega
      have HP := Lib.hid hP
      clear hP u1 u2 hM
      have HT := Lib.hid k4
      have HS5 := Lib.hid k5
      rw [k4] at KM
      rw [k5] at KH
      rw [m3] at KT
      have b50 : (i.op == 50) = false := by simp; omega
      have b51 : (i.op == 51) = false := by simp; omega
      have b53 : (i.op == 53) = false := by simp; omega
      have HK7 := Lib.hid k7
      have HK8 := Lib.hid k8
      have HBB := Lib.hid hB
      obtain ⟨so, hso⟩ : ∃ so, srt i.op = so := ⟨_, rfl⟩
      rw [hso] at k6
      have HSO := Lib.hid hso
      rw [hso]
      clear k4 k5 k7 k8 hB hso HRG HKE hrd hr1 hr2 c0 c1 f0 f1
      go_wp2_with (first
          | (go_at_call 75; refine (KT g _ HJ).mono ?_; rintro e w3 ⟨rfl, HJ2⟩; clear q0 q4 q5 q6 q7 q8 HJ; have HJ := HJ2; clear HJ2; obtain ⟨q0, _, _, _, q4, q5, q6, q7, q8⟩ := HJ.cells)
          | (go_at_call 72; refine (KH g _ HJ).mono ?_; rintro e w3 ⟨rfl, HJ2⟩; clear q0 q4 q5 q6 q7 q8 HJ; have HJ := HJ2; clear HJ2; obtain ⟨q0, _, _, _, q4, q5, q6, q7, q8⟩ := HJ.cells)
          | (go_at_call 70; refine (KM g _ HJ).mono ?_; rintro e w3 ⟨rfl, HJ2⟩; clear q0 q4 q5 q6 q7 q8 HJ; have HJ := HJ2; clear HJ2; obtain ⟨q0, _, _, _, q4, q5, q6, q7, q8⟩ := HJ.cells)
          | (go_at_call 76; refine (KP g _ HJ).mono ?_; rintro e w3 ⟨rfl, HJ2⟩; clear q0 q4 q5 q6 q7 q8 HJ; have HJ := HJ2; clear HJ2; obtain ⟨q0, _, _, _, q4, q5, q6, q7, q8⟩ := HJ.cells))
      go_ret
      refine ⟨ret_int ?_, HJ.1⟩
      unfold wordV
      rw [HBB.out]
      simp only [HT.out, HS5.out, HP.out, m3, if_neg (by decide : ¬ (0 : Int) < 0), if_pos (by decide : (0 : Int) < 4), if_neg HK8.out, if_neg HK7.out, if_neg h53, HSO.out, if_neg (show ¬ 10 ≤ so by omega)]
      simp
    · as_aux_lemma =>
      obtain ⟨k1, k2, k3, k4, k5, k6, k7, k8⟩ := cls_1 ⟨k, hk⟩ hc
      obtain ⟨m1, m2, m3⟩ := cm_0 ⟨k, hk⟩ (.inr hc)
      simp only [← HKE.out] at k1 k2 k3 k4 k5 k6 k7 k8 m1 m2 m3
      have h53 := h53 (by show clL.getD k 99 ≠ 10; omega)
      have z1 := HRG.out.fir k2
      have z2 := HRG.out.sec k3
      have hB1 : B ≤ 4095 := by omega
      have hM : May 5 i.imm := by have := HRG.out.may (by rw [k4]; decide); rw [k4] at this; exact this
      obtain ⟨u1, u2, u3, u4⟩ := put_keep (f := 5) (by decide) (by decide) hM
      simp only [Int.cast_ofNat_Int] at u1 u2 u3 u4
      have KP := KP 5
      obtain ⟨P, hP⟩ : ∃ P, putK 5 (i.imm % 18446744073709551616) 32 = P := ⟨_, rfl⟩
      rw [hP] at u1 u2 u3 u4 KP
      have hPb : P ≤ 4294963200 := by
        have u := u2
        rw [keep_5] at u
        omega
      have HP := Lib.hid hP
      clear hP u1 u2 hM
      have HT := Lib.hid k4
      have HS5 := Lib.hid k5
      rw [k4] at KM
      rw [k5] at KH
      rw [m3] at KT
      have b50 : (i.op == 50) = false := by simp; omega
      have b51 : (i.op == 51) = false := by simp; omega
      have b53 : (i.op == 53) = false := by simp; omega
      have HK7 := Lib.hid k7
      have HK8 := Lib.hid k8
      have HBB := Lib.hid hB
      obtain ⟨so, hso⟩ : ∃ so, srt i.op = so := ⟨_, rfl⟩
      rw [hso] at k6
      have HSO := Lib.hid hso
      rw [hso]
      clear k4 k5 k7 k8 hB hso HRG HKE hrd hr1 hr2 c0 c1 f0 f1
      go_wp2_with (first
          | (go_at_call 75; refine (KT g _ HJ).mono ?_; rintro e w3 ⟨rfl, HJ2⟩; clear q0 q4 q5 q6 q7 q8 HJ; have HJ := HJ2; clear HJ2; obtain ⟨q0, _, _, _, q4, q5, q6, q7, q8⟩ := HJ.cells)
          | (go_at_call 72; refine (KH g _ HJ).mono ?_; rintro e w3 ⟨rfl, HJ2⟩; clear q0 q4 q5 q6 q7 q8 HJ; have HJ := HJ2; clear HJ2; obtain ⟨q0, _, _, _, q4, q5, q6, q7, q8⟩ := HJ.cells)
          | (go_at_call 70; refine (KM g _ HJ).mono ?_; rintro e w3 ⟨rfl, HJ2⟩; clear q0 q4 q5 q6 q7 q8 HJ; have HJ := HJ2; clear HJ2; obtain ⟨q0, _, _, _, q4, q5, q6, q7, q8⟩ := HJ.cells)
          | (go_at_call 76; refine (KP g _ HJ).mono ?_; rintro e w3 ⟨rfl, HJ2⟩; clear q0 q4 q5 q6 q7 q8 HJ; have HJ := HJ2; clear HJ2; obtain ⟨q0, _, _, _, q4, q5, q6, q7, q8⟩ := HJ.cells))
      go_ret
      refine ⟨ret_int ?_, HJ.1⟩
      unfold wordV
      rw [HBB.out]
      simp only [HT.out, HS5.out, HP.out, m3, if_neg (by decide : ¬ (0 : Int) < 0), if_pos (by decide : (0 : Int) < 5), if_neg HK8.out, if_neg HK7.out, if_neg h53, HSO.out, if_neg (show ¬ 10 ≤ so by omega)]
      simp
    · as_aux_lemma =>
      obtain ⟨k1, k2, k3, k4, k5, k6, k7, k8⟩ := cls_2 ⟨k, hk⟩ hc
      obtain ⟨m1, m3⟩ := cm_2 ⟨k, hk⟩ (.inl hc)
      simp only [← HKE.out] at k1 k2 k3 k4 k5 k6 k7 k8 m1 m3
      have h53 := h53 (by show clL.getD k 99 ≠ 10; omega)
      have z2 := HRG.out.sec k3
      have hB1 : B ≤ 1048575 := by omega
      have hM : May 1 i.imm := by have := HRG.out.may (by rw [k4]; decide); rw [k4] at this; exact this
      obtain ⟨u1, u2, u3, u4⟩ := put_keep (f := 1) (by decide) (by decide) hM
      simp only [Int.cast_ofNat_Int] at u1 u2 u3 u4
      have KP := KP 1
      obtain ⟨P, hP⟩ : ∃ P, putK 1 (i.imm % 18446744073709551616) 32 = P := ⟨_, rfl⟩
      rw [hP] at u1 u2 u3 u4 KP
      have hPb : P ≤ 4293918720 := by
        have u := u2
        rw [keep_1] at u
        omega
      have HP := Lib.hid hP
      clear hP u1 u2 hM
      have HT := Lib.hid k4
      have HS5 := Lib.hid k5
      rw [k4] at KM
      rw [k5] at KH
      rw [m3] at KT
      have b50 : (i.op == 50) = false := by simp; omega
      have b51 : (i.op == 51) = false := by simp; omega
      have b53 : (i.op == 53) = false := by simp; omega
      have HK7 := Lib.hid k7
      have HK8 := Lib.hid k8
      have HBB := Lib.hid hB
      obtain ⟨so, hso⟩ : ∃ so, srt i.op = so := ⟨_, rfl⟩
      rw [hso] at k6
      have HSO := Lib.hid hso
      rw [hso]
      clear k4 k5 k7 k8 hB hso HRG HKE hrd hr1 hr2 c0 c1 f0 f1
      go_wp2_with (first
          | (go_at_call 75; refine (KT g _ HJ).mono ?_; rintro e w3 ⟨rfl, HJ2⟩; clear q0 q4 q5 q6 q7 q8 HJ; have HJ := HJ2; clear HJ2; obtain ⟨q0, _, _, _, q4, q5, q6, q7, q8⟩ := HJ.cells)
          | (go_at_call 72; refine (KH g _ HJ).mono ?_; rintro e w3 ⟨rfl, HJ2⟩; clear q0 q4 q5 q6 q7 q8 HJ; have HJ := HJ2; clear HJ2; obtain ⟨q0, _, _, _, q4, q5, q6, q7, q8⟩ := HJ.cells)
          | (go_at_call 70; refine (KM g _ HJ).mono ?_; rintro e w3 ⟨rfl, HJ2⟩; clear q0 q4 q5 q6 q7 q8 HJ; have HJ := HJ2; clear HJ2; obtain ⟨q0, _, _, _, q4, q5, q6, q7, q8⟩ := HJ.cells)
          | (go_at_call 76; refine (KP g _ HJ).mono ?_; rintro e w3 ⟨rfl, HJ2⟩; clear q0 q4 q5 q6 q7 q8 HJ; have HJ := HJ2; clear HJ2; obtain ⟨q0, _, _, _, q4, q5, q6, q7, q8⟩ := HJ.cells))
      go_ret
      refine ⟨ret_int ?_, HJ.1⟩
      unfold wordV
      rw [HBB.out]
      simp only [HT.out, HS5.out, HP.out, m3, if_neg (by decide : ¬ (0 : Int) < 0), if_pos (by decide : (0 : Int) < 1), if_neg HK8.out, if_neg HK7.out, if_neg h53, HSO.out, if_neg (show ¬ 10 ≤ so by omega)]
      simp
    · as_aux_lemma =>
      obtain ⟨k1, k2, k3, k4, k5, k6, k7, k8⟩ := cls_3 ⟨k, hk⟩ hc
      obtain ⟨m1, m3⟩ := cm_2 ⟨k, hk⟩ (.inr (.inl hc))
      simp only [← HKE.out] at k1 k2 k3 k4 k5 k6 k7 k8 m1 m3
      have h53 := h53 (by show clL.getD k 99 ≠ 10; omega)
      have z1 := HRG.out.wr k1
      have hB1 : B ≤ 33550463 := by omega
      have hM : May 3 i.imm := by have := HRG.out.may (by rw [k4]; decide); rw [k4] at this; exact this
      obtain ⟨u1, u2, u3, u4⟩ := put_keep (f := 3) (by decide) (by decide) hM
      simp only [Int.cast_ofNat_Int] at u1 u2 u3 u4
      have KP := KP 3
      obtain ⟨P, hP⟩ : ∃ P, putK 3 (i.imm % 18446744073709551616) 32 = P := ⟨_, rfl⟩
      rw [hP] at u1 u2 u3 u4 KP
      have hPb : P ≤ 4261416832 := by
        have u := u2
        rw [keep_3] at u
        omega
      have HP := Lib.hid hP
      clear hP u1 u2 hM
      have HT := Lib.hid k4
      have HS5 := Lib.hid k5
      rw [k4] at KM
      rw [k5] at KH
      rw [m3] at KT
      have b50 : (i.op == 50) = false := by simp; omega
      have b51 : (i.op == 51) = false := by simp; omega
      have b53 : (i.op == 53) = false := by simp; omega
      have HK7 := Lib.hid k7
      have HK8 := Lib.hid k8
      have HBB := Lib.hid hB
      obtain ⟨so, hso⟩ : ∃ so, srt i.op = so := ⟨_, rfl⟩
      rw [hso] at k6
      have HSO := Lib.hid hso
      rw [hso]
      clear k4 k5 k7 k8 hB hso HRG HKE hrd hr1 hr2 c0 c1 f0 f1
      go_wp2_with (first
          | (go_at_call 75; refine (KT g _ HJ).mono ?_; rintro e w3 ⟨rfl, HJ2⟩; clear q0 q4 q5 q6 q7 q8 HJ; have HJ := HJ2; clear HJ2; obtain ⟨q0, _, _, _, q4, q5, q6, q7, q8⟩ := HJ.cells)
          | (go_at_call 72; refine (KH g _ HJ).mono ?_; rintro e w3 ⟨rfl, HJ2⟩; clear q0 q4 q5 q6 q7 q8 HJ; have HJ := HJ2; clear HJ2; obtain ⟨q0, _, _, _, q4, q5, q6, q7, q8⟩ := HJ.cells)
          | (go_at_call 70; refine (KM g _ HJ).mono ?_; rintro e w3 ⟨rfl, HJ2⟩; clear q0 q4 q5 q6 q7 q8 HJ; have HJ := HJ2; clear HJ2; obtain ⟨q0, _, _, _, q4, q5, q6, q7, q8⟩ := HJ.cells)
          | (go_at_call 76; refine (KP g _ HJ).mono ?_; rintro e w3 ⟨rfl, HJ2⟩; clear q0 q4 q5 q6 q7 q8 HJ; have HJ := HJ2; clear HJ2; obtain ⟨q0, _, _, _, q4, q5, q6, q7, q8⟩ := HJ.cells))
      go_ret
      refine ⟨ret_int ?_, HJ.1⟩
      unfold wordV
      rw [HBB.out]
      simp only [HT.out, HS5.out, HP.out, m3, if_neg (by decide : ¬ (0 : Int) < 0), if_pos (by decide : (0 : Int) < 3), if_neg HK8.out, if_neg HK7.out, if_neg h53, HSO.out, if_neg (show ¬ 10 ≤ so by omega)]
      simp
    · as_aux_lemma =>
      obtain ⟨k1, k2, k3, k4, k5, k6, k7, k8⟩ := cls_4 ⟨k, hk⟩ hc
      obtain ⟨m1, m3⟩ := cm_2 ⟨k, hk⟩ (.inr (.inr hc))
      simp only [← HKE.out] at k1 k2 k3 k4 k5 k6 k7 k8 m1 m3
      have h53 := h53 (by show clL.getD k 99 ≠ 10; omega)
      have z1 := HRG.out.wr k1
      have hB1 : B ≤ 33550463 := by omega
      have hM : May 2 i.imm := by have := HRG.out.may (by rw [k4]; decide); rw [k4] at this; exact this
      obtain ⟨u1, u2, u3, u4⟩ := put_keep (f := 2) (by decide) (by decide) hM
      simp only [Int.cast_ofNat_Int] at u1 u2 u3 u4
      have KP := KP 2
      obtain ⟨P, hP⟩ : ∃ P, putK 2 (i.imm % 18446744073709551616) 32 = P := ⟨_, rfl⟩
      rw [hP] at u1 u2 u3 u4 KP
      have hPb : P ≤ 4261416832 := by
        have u := u2
        rw [keep_2] at u
        omega
      have HP := Lib.hid hP
      clear hP u1 u2 hM
      have HT := Lib.hid k4
      have HS5 := Lib.hid k5
      rw [k4] at KM
      rw [k5] at KH
      rw [m3] at KT
      have b50 : (i.op == 50) = false := by simp; omega
      have b51 : (i.op == 51) = false := by simp; omega
      have b53 : (i.op == 53) = false := by simp; omega
      have HK7 := Lib.hid k7
      have HK8 := Lib.hid k8
      have HBB := Lib.hid hB
      obtain ⟨so, hso⟩ : ∃ so, srt i.op = so := ⟨_, rfl⟩
      rw [hso] at k6
      have HSO := Lib.hid hso
      rw [hso]
      clear k4 k5 k7 k8 hB hso HRG HKE hrd hr1 hr2 c0 c1 f0 f1
      go_wp2_with (first
          | (go_at_call 75; refine (KT g _ HJ).mono ?_; rintro e w3 ⟨rfl, HJ2⟩; clear q0 q4 q5 q6 q7 q8 HJ; have HJ := HJ2; clear HJ2; obtain ⟨q0, _, _, _, q4, q5, q6, q7, q8⟩ := HJ.cells)
          | (go_at_call 72; refine (KH g _ HJ).mono ?_; rintro e w3 ⟨rfl, HJ2⟩; clear q0 q4 q5 q6 q7 q8 HJ; have HJ := HJ2; clear HJ2; obtain ⟨q0, _, _, _, q4, q5, q6, q7, q8⟩ := HJ.cells)
          | (go_at_call 70; refine (KM g _ HJ).mono ?_; rintro e w3 ⟨rfl, HJ2⟩; clear q0 q4 q5 q6 q7 q8 HJ; have HJ := HJ2; clear HJ2; obtain ⟨q0, _, _, _, q4, q5, q6, q7, q8⟩ := HJ.cells)
          | (go_at_call 76; refine (KP g _ HJ).mono ?_; rintro e w3 ⟨rfl, HJ2⟩; clear q0 q4 q5 q6 q7 q8 HJ; have HJ := HJ2; clear HJ2; obtain ⟨q0, _, _, _, q4, q5, q6, q7, q8⟩ := HJ.cells))
      go_ret
      refine ⟨ret_int ?_, HJ.1⟩
      unfold wordV
      rw [HBB.out]
      simp only [HT.out, HS5.out, HP.out, m3, if_neg (by decide : ¬ (0 : Int) < 0), if_pos (by decide : (0 : Int) < 2), if_neg HK8.out, if_neg HK7.out, if_neg h53, HSO.out, if_neg (show ¬ 10 ≤ so by omega)]
      simp
    · as_aux_lemma =>
      obtain ⟨k1, k2, k3, k4, k5, k6, k7, k8⟩ := cls_5 ⟨k, hk⟩ hc
      obtain ⟨m1, m2, m3⟩ := cm_5 ⟨k, hk⟩ (hc)
      simp only [← HKE.out] at k1 k2 k3 k4 k5 k6 k7 k8 m1 m2 m3
      have h53 := h53 (by show clL.getD k 99 ≠ 10; omega)
      have z2 := HRG.out.sec k3
      have hB1 : B ≤ 1048575 := by omega
      have him := HRG.out.sh6 k5
      have HT := Lib.hid k4
      have HS5 := Lib.hid k5
      rw [k4] at KM
      rw [k5] at KH
      have b50 : (i.op == 50) = false := by simp; omega
      have b51 : (i.op == 51) = false := by simp; omega
      have b53 : (i.op == 53) = false := by simp; omega
      have HK7 := Lib.hid k7
      have HK8 := Lib.hid k8
      have HBB := Lib.hid hB
      obtain ⟨so, hso⟩ : ∃ so, srt i.op = so := ⟨_, rfl⟩
      rw [hso] at k6
      have HSO := Lib.hid hso
      rw [hso]
      clear k4 k5 k7 k8 hB hso HRG HKE hrd hr1 hr2 c0 c1 f0 f1
      rcases m3 with ⟨m3, m4⟩ | ⟨m3, m4⟩
      all_goals
        rw [m3] at KT
        have HTU := Lib.hid m3
        clear m3 m4
        go_wp2_with (first
          | (go_at_call 75; refine (KT g _ HJ).mono ?_; rintro e w3 ⟨rfl, HJ2⟩; clear q0 q4 q5 q6 q7 q8 HJ; have HJ := HJ2; clear HJ2; obtain ⟨q0, _, _, _, q4, q5, q6, q7, q8⟩ := HJ.cells)
          | (go_at_call 72; refine (KH g _ HJ).mono ?_; rintro e w3 ⟨rfl, HJ2⟩; clear q0 q4 q5 q6 q7 q8 HJ; have HJ := HJ2; clear HJ2; obtain ⟨q0, _, _, _, q4, q5, q6, q7, q8⟩ := HJ.cells)
          | (go_at_call 70; refine (KM g _ HJ).mono ?_; rintro e w3 ⟨rfl, HJ2⟩; clear q0 q4 q5 q6 q7 q8 HJ; have HJ := HJ2; clear HJ2; obtain ⟨q0, _, _, _, q4, q5, q6, q7, q8⟩ := HJ.cells)
          | (go_at_call 76; refine (KP g _ HJ).mono ?_; rintro e w3 ⟨rfl, HJ2⟩; clear q0 q4 q5 q6 q7 q8 HJ; have HJ := HJ2; clear HJ2; obtain ⟨q0, _, _, _, q4, q5, q6, q7, q8⟩ := HJ.cells))
        go_ret
        refine ⟨ret_int ?_, HJ.1⟩
        unfold wordV
        rw [HBB.out]
        simp only [HT.out, HS5.out, HTU.out, if_neg (by decide : ¬ (0 : Int) < 0), if_pos (by decide : (0 : Int) < 6), if_neg HK8.out, if_neg HK7.out, if_neg h53, HSO.out, if_neg (show ¬ 10 ≤ so by omega)]
        simp
    · as_aux_lemma =>
      obtain ⟨k1, k2, k3, k4, k5, k6, k7, k8⟩ := cls_6 ⟨k, hk⟩ hc
      obtain ⟨m1, m3⟩ := cm_6 ⟨k, hk⟩ (.inl hc)
      simp only [← HKE.out] at k1 k2 k3 k4 k5 k6 k7 k8 m1 m3
      have h53 := h53 (by show clL.getD k 99 ≠ 10; omega)
      have z2 := HRG.out.sec k3
      have hB1 : B ≤ 1048575 := by omega
      have him := HRG.out.sh5 k5
      have HT := Lib.hid k4
      have HS5 := Lib.hid k5
      rw [k4] at KM
      rw [k5] at KH
      have b50 : (i.op == 50) = false := by simp; omega
      have b51 : (i.op == 51) = false := by simp; omega
      have b53 : (i.op == 53) = false := by simp; omega
      have HK7 := Lib.hid k7
      have HK8 := Lib.hid k8
      have HBB := Lib.hid hB
      obtain ⟨so, hso⟩ : ∃ so, srt i.op = so := ⟨_, rfl⟩
      rw [hso] at k6
      have HSO := Lib.hid hso
      rw [hso]
      clear k4 k5 k7 k8 hB hso HRG HKE hrd hr1 hr2 c0 c1 f0 f1
      rcases m3 with ⟨m3, m4⟩ | ⟨m3, m4⟩
      all_goals
        rw [m3] at KT
        have HTU := Lib.hid m3
        clear m3 m4
        go_wp2_with (first
          | (go_at_call 75; refine (KT g _ HJ).mono ?_; rintro e w3 ⟨rfl, HJ2⟩; clear q0 q4 q5 q6 q7 q8 HJ; have HJ := HJ2; clear HJ2; obtain ⟨q0, _, _, _, q4, q5, q6, q7, q8⟩ := HJ.cells)
          | (go_at_call 72; refine (KH g _ HJ).mono ?_; rintro e w3 ⟨rfl, HJ2⟩; clear q0 q4 q5 q6 q7 q8 HJ; have HJ := HJ2; clear HJ2; obtain ⟨q0, _, _, _, q4, q5, q6, q7, q8⟩ := HJ.cells)
          | (go_at_call 70; refine (KM g _ HJ).mono ?_; rintro e w3 ⟨rfl, HJ2⟩; clear q0 q4 q5 q6 q7 q8 HJ; have HJ := HJ2; clear HJ2; obtain ⟨q0, _, _, _, q4, q5, q6, q7, q8⟩ := HJ.cells)
          | (go_at_call 76; refine (KP g _ HJ).mono ?_; rintro e w3 ⟨rfl, HJ2⟩; clear q0 q4 q5 q6 q7 q8 HJ; have HJ := HJ2; clear HJ2; obtain ⟨q0, _, _, _, q4, q5, q6, q7, q8⟩ := HJ.cells))
        go_ret
        refine ⟨ret_int ?_, HJ.1⟩
        unfold wordV
        rw [HBB.out]
        simp only [HT.out, HS5.out, HTU.out, if_neg (by decide : ¬ (0 : Int) < 0), if_pos (by decide : (0 : Int) < 5), if_neg HK8.out, if_neg HK7.out, if_neg h53, HSO.out, if_neg (show ¬ 10 ≤ so by omega)]
        simp
    · as_aux_lemma =>
      obtain ⟨k1, k2, k3, k4, k5, k6, k7, k8⟩ := cls_7 ⟨k, hk⟩ hc
      obtain ⟨m1, m3⟩ := cm_6 ⟨k, hk⟩ (.inr hc)
      simp only [← HKE.out] at k1 k2 k3 k4 k5 k6 k7 k8 m1 m3
      have h53 := h53 (by show clL.getD k 99 ≠ 10; omega)
      have HT := Lib.hid k4
      have HS5 := Lib.hid k5
      rw [k4] at KM
      rw [k5] at KH
      have b50 : (i.op == 50) = false := by simp; omega
      have b51 : (i.op == 51) = false := by simp; omega
      have b53 : (i.op == 53) = false := by simp; omega
      have HK7 := Lib.hid k7
      have HK8 := Lib.hid k8
      have HBB := Lib.hid hB
      obtain ⟨so, hso⟩ : ∃ so, srt i.op = so := ⟨_, rfl⟩
      rw [hso] at k6
      have HSO := Lib.hid hso
      rw [hso]
      clear k4 k5 k7 k8 hB hso HRG HKE hrd hr1 hr2 c0 c1 f0 f1
      rcases m3 with ⟨m3, m4⟩ | ⟨m3, m4⟩
      all_goals
        rw [m3] at KT
        have HTU := Lib.hid m3
        clear m3 m4
        go_wp2_with (first
          | (go_at_call 75; refine (KT g _ HJ).mono ?_; rintro e w3 ⟨rfl, HJ2⟩; clear q0 q4 q5 q6 q7 q8 HJ; have HJ := HJ2; clear HJ2; obtain ⟨q0, _, _, _, q4, q5, q6, q7, q8⟩ := HJ.cells)
          | (go_at_call 72; refine (KH g _ HJ).mono ?_; rintro e w3 ⟨rfl, HJ2⟩; clear q0 q4 q5 q6 q7 q8 HJ; have HJ := HJ2; clear HJ2; obtain ⟨q0, _, _, _, q4, q5, q6, q7, q8⟩ := HJ.cells)
          | (go_at_call 70; refine (KM g _ HJ).mono ?_; rintro e w3 ⟨rfl, HJ2⟩; clear q0 q4 q5 q6 q7 q8 HJ; have HJ := HJ2; clear HJ2; obtain ⟨q0, _, _, _, q4, q5, q6, q7, q8⟩ := HJ.cells)
          | (go_at_call 76; refine (KP g _ HJ).mono ?_; rintro e w3 ⟨rfl, HJ2⟩; clear q0 q4 q5 q6 q7 q8 HJ; have HJ := HJ2; clear HJ2; obtain ⟨q0, _, _, _, q4, q5, q6, q7, q8⟩ := HJ.cells))
        go_ret
        refine ⟨ret_int ?_, HJ.1⟩
        unfold wordV
        rw [HBB.out]
        simp only [HT.out, HS5.out, HTU.out, if_neg (by decide : ¬ (0 : Int) < 0), if_neg HK8.out, if_neg HK7.out, if_neg h53, HSO.out, if_neg (show ¬ 10 ≤ so by omega)]
        simp
    · as_aux_lemma =>
      obtain ⟨k1, k2, k3, k4, k5, k6, k7, k8⟩ := cls_8 ⟨k, hk⟩ hc
      obtain ⟨m1, m2, m4, m3⟩ := cm_8 ⟨k, hk⟩ (hc)
      simp only [← HKE.out] at k1 k2 k3 k4 k5 k6 k7 k8 m1 m2 m4 m3
      have h53 := h53 (by show clL.getD k 99 ≠ 10; omega)
      have z0 := HRG.out.wr k1
      have z1 := HRG.out.fir k2
      have z2 := HRG.out.sec k3
      have hB1 : B ≤ 127 := by omega
      have hps := HRG.out.fen k7
      have HT := Lib.hid k4
      have HS5 := Lib.hid k5
      rw [k4] at KM
      rw [k5] at KH
      rw [m3] at KT
      have b50 : (i.op == 50) = true := by simp [k7]
      have b51 : (i.op == 51) = false := by simp; omega
      have b53 : (i.op == 53) = false := by simp; omega
      have HK7 := Lib.hid k7
      have HK8 := Lib.hid k8
      have HBB := Lib.hid hB
      obtain ⟨so, hso⟩ : ∃ so, srt i.op = so := ⟨_, rfl⟩
      rw [hso] at k6
      have HSO := Lib.hid hso
      rw [hso]
      clear k4 k5 k7 k8 hB hso HRG HKE hrd hr1 hr2 c0 c1 f0 f1
      go_wp2_with (first
          | (go_at_call 75; refine (KT g _ HJ).mono ?_; rintro e w3 ⟨rfl, HJ2⟩; clear q0 q4 q5 q6 q7 q8 HJ; have HJ := HJ2; clear HJ2; obtain ⟨q0, _, _, _, q4, q5, q6, q7, q8⟩ := HJ.cells)
          | (go_at_call 72; refine (KH g _ HJ).mono ?_; rintro e w3 ⟨rfl, HJ2⟩; clear q0 q4 q5 q6 q7 q8 HJ; have HJ := HJ2; clear HJ2; obtain ⟨q0, _, _, _, q4, q5, q6, q7, q8⟩ := HJ.cells)
          | (go_at_call 70; refine (KM g _ HJ).mono ?_; rintro e w3 ⟨rfl, HJ2⟩; clear q0 q4 q5 q6 q7 q8 HJ; have HJ := HJ2; clear HJ2; obtain ⟨q0, _, _, _, q4, q5, q6, q7, q8⟩ := HJ.cells)
          | (go_at_call 76; refine (KP g _ HJ).mono ?_; rintro e w3 ⟨rfl, HJ2⟩; clear q0 q4 q5 q6 q7 q8 HJ; have HJ := HJ2; clear HJ2; obtain ⟨q0, _, _, _, q4, q5, q6, q7, q8⟩ := HJ.cells))
      go_ret
      refine ⟨ret_int ?_, HJ.1⟩
      unfold wordV
      rw [HBB.out]
      simp only [HT.out, HS5.out, m3, if_neg (by decide : ¬ (0 : Int) < 0), if_neg (show ¬ i.op = 51 by have := HK7.out; omega), if_pos HK7.out, HSO.out, if_neg (show ¬ 10 ≤ so by omega)]
      simp
      omega
    · as_aux_lemma =>
      obtain ⟨k1, k2, k3, k4, k5, k6, k7, k8⟩ := cls_9 ⟨k, hk⟩ hc
      obtain m1 := cm_9 ⟨k, hk⟩ (hc)
      simp only [← HKE.out] at k1 k2 k3 k4 k5 k6 k7 k8 m1
      have h53 := h53 (by show clL.getD k 99 ≠ 10; omega)
      have z0 := HRG.out.wr k1
      have z1 := HRG.out.fir k2
      have z2 := HRG.out.sec k3
      have hB1 : B ≤ 28799 := by omega
      have HT := Lib.hid k4
      have HS5 := Lib.hid k5
      rw [k4] at KM
      rw [k5] at KH
      have b50 : (i.op == 50) = false := by simp; omega
      have b51 : (i.op == 51) = true := by simp; omega
      have b53 : (i.op == 53) = false := by simp; omega
      have HK7 := Lib.hid k7
      have HK8 := Lib.hid k8
      have HBB := Lib.hid hB
      obtain ⟨so, hso⟩ : ∃ so, srt i.op = so := ⟨_, rfl⟩
      rw [hso] at k6
      have HSO := Lib.hid hso
      rw [hso]
      clear k4 k5 k7 k8 hB hso HRG HKE hrd hr1 hr2 c0 c1 f0 f1
      cases hT : turB i.op
      all_goals
        rw [hT] at KT
        clear hT
        go_wp2_with (first
          | (go_at_call 75; refine (KT g _ HJ).mono ?_; rintro e w3 ⟨rfl, HJ2⟩; clear q0 q4 q5 q6 q7 q8 HJ; have HJ := HJ2; clear HJ2; obtain ⟨q0, _, _, _, q4, q5, q6, q7, q8⟩ := HJ.cells)
          | (go_at_call 72; refine (KH g _ HJ).mono ?_; rintro e w3 ⟨rfl, HJ2⟩; clear q0 q4 q5 q6 q7 q8 HJ; have HJ := HJ2; clear HJ2; obtain ⟨q0, _, _, _, q4, q5, q6, q7, q8⟩ := HJ.cells)
          | (go_at_call 70; refine (KM g _ HJ).mono ?_; rintro e w3 ⟨rfl, HJ2⟩; clear q0 q4 q5 q6 q7 q8 HJ; have HJ := HJ2; clear HJ2; obtain ⟨q0, _, _, _, q4, q5, q6, q7, q8⟩ := HJ.cells)
          | (go_at_call 76; refine (KP g _ HJ).mono ?_; rintro e w3 ⟨rfl, HJ2⟩; clear q0 q4 q5 q6 q7 q8 HJ; have HJ := HJ2; clear HJ2; obtain ⟨q0, _, _, _, q4, q5, q6, q7, q8⟩ := HJ.cells))
        go_ret
        refine ⟨ret_int ?_, HJ.1⟩
        unfold wordV
        rw [if_pos HK8.out]
    · as_aux_lemma =>
      obtain ⟨k1, k2, k3, k4, k5, k6, k7, k8⟩ := cls_10 ⟨k, hk⟩ hc
      obtain ⟨m1, m2, m3, m4⟩ := cm_10 ⟨k, hk⟩ (hc)
      simp only [← HKE.out] at k1 k2 k3 k4 k5 k6 k7 k8 m1 m2 m3 m4
      have z0 := HRG.out.wr k1
      have z1 := HRG.out.fir k2
      have z2 := HRG.out.sec k3
      have hB1 : B ≤ 127 := by omega
      have HT := Lib.hid k4
      have HS5 := Lib.hid k5
      rw [k4] at KM
      rw [k5] at KH
      rw [m3] at KT
      have b50 : (i.op == 50) = false := by simp; omega
      have b51 : (i.op == 51) = false := by simp; omega
      have HK7 := Lib.hid k7
      have HK8 := Lib.hid k8
      have HBB := Lib.hid hB
      obtain ⟨so, hso⟩ : ∃ so, srt i.op = so := ⟨_, rfl⟩
      rw [hso] at k6
      have HSO := Lib.hid hso
      rw [hso]
      clear k4 k5 k7 k8 hB hso HRG HKE hrd hr1 hr2 c0 c1 f0 f1
      have ho : i.op = 52 ∨ i.op = 53 := by rcases m4 with h | h <;> omega
      rcases ho with ho | ho
      · have b53 : (i.op == 53) = false := by simp [ho]
        have HO := Lib.hid ho
        clear ho m4
        go_wp2_with (first
          | (go_at_call 75; refine (KT g _ HJ).mono ?_; rintro e w3 ⟨rfl, HJ2⟩; clear q0 q4 q5 q6 q7 q8 HJ; have HJ := HJ2; clear HJ2; obtain ⟨q0, _, _, _, q4, q5, q6, q7, q8⟩ := HJ.cells)
          | (go_at_call 72; refine (KH g _ HJ).mono ?_; rintro e w3 ⟨rfl, HJ2⟩; clear q0 q4 q5 q6 q7 q8 HJ; have HJ := HJ2; clear HJ2; obtain ⟨q0, _, _, _, q4, q5, q6, q7, q8⟩ := HJ.cells)
          | (go_at_call 70; refine (KM g _ HJ).mono ?_; rintro e w3 ⟨rfl, HJ2⟩; clear q0 q4 q5 q6 q7 q8 HJ; have HJ := HJ2; clear HJ2; obtain ⟨q0, _, _, _, q4, q5, q6, q7, q8⟩ := HJ.cells)
          | (go_at_call 76; refine (KP g _ HJ).mono ?_; rintro e w3 ⟨rfl, HJ2⟩; clear q0 q4 q5 q6 q7 q8 HJ; have HJ := HJ2; clear HJ2; obtain ⟨q0, _, _, _, q4, q5, q6, q7, q8⟩ := HJ.cells))
        go_ret
        refine ⟨ret_int ?_, HJ.1⟩
        unfold wordV
        rw [HBB.out]
        simp only [HT.out, HS5.out, m3, if_neg (by decide : ¬ (0 : Int) < 0), if_neg HK8.out, if_neg HK7.out, if_neg (show ¬ i.op = 53 by rw [HO.out]; decide), HSO.out, if_neg (show ¬ 10 ≤ so by omega)]
        simp
      · have b53 : (i.op == 53) = true := by simp [ho]
        have HO := Lib.hid ho
        clear ho m4
        go_wp2_with (first
          | (go_at_call 75; refine (KT g _ HJ).mono ?_; rintro e w3 ⟨rfl, HJ2⟩; clear q0 q4 q5 q6 q7 q8 HJ; have HJ := HJ2; clear HJ2; obtain ⟨q0, _, _, _, q4, q5, q6, q7, q8⟩ := HJ.cells)
          | (go_at_call 72; refine (KH g _ HJ).mono ?_; rintro e w3 ⟨rfl, HJ2⟩; clear q0 q4 q5 q6 q7 q8 HJ; have HJ := HJ2; clear HJ2; obtain ⟨q0, _, _, _, q4, q5, q6, q7, q8⟩ := HJ.cells)
          | (go_at_call 70; refine (KM g _ HJ).mono ?_; rintro e w3 ⟨rfl, HJ2⟩; clear q0 q4 q5 q6 q7 q8 HJ; have HJ := HJ2; clear HJ2; obtain ⟨q0, _, _, _, q4, q5, q6, q7, q8⟩ := HJ.cells)
          | (go_at_call 76; refine (KP g _ HJ).mono ?_; rintro e w3 ⟨rfl, HJ2⟩; clear q0 q4 q5 q6 q7 q8 HJ; have HJ := HJ2; clear HJ2; obtain ⟨q0, _, _, _, q4, q5, q6, q7, q8⟩ := HJ.cells))
        go_ret
        refine ⟨ret_int ?_, HJ.1⟩
        unfold wordV
        rw [HBB.out]
        simp only [HT.out, HS5.out, m3, if_neg (by decide : ¬ (0 : Int) < 0), if_neg HK8.out, if_neg HK7.out, if_pos HO.out, HSO.out, if_neg (show ¬ 10 ≤ so by omega)]
        simp
    · as_aux_lemma =>
      obtain ⟨k1, k2, k3, k4, k5, k6, k7, k8⟩ := cls_11 ⟨k, hk⟩ hc
      obtain ⟨m1, m2, m3⟩ := cm_11 ⟨k, hk⟩ (hc)
      simp only [← HKE.out] at k1 k2 k3 k4 k5 k6 k7 k8 m1 m2 m3
      have h53 := h53 (by show clL.getD k 99 ≠ 10; omega)
      have HT := Lib.hid k4
      have HS5 := Lib.hid k5
      rw [k4] at KM
      rw [k5] at KH
      rw [m3] at KT
      have KV := KV (by have := srt_spec i.op; omega)
      have b50 : (i.op == 50) = false := by simp; omega
      have b51 : (i.op == 51) = false := by simp; omega
      have b53 : (i.op == 53) = false := by simp; omega
      have HK7 := Lib.hid k7
      have HK8 := Lib.hid k8
      have HBB := Lib.hid hB
      obtain ⟨so, hso⟩ : ∃ so, srt i.op = so := ⟨_, rfl⟩
      rw [hso] at k6
      have HSO := Lib.hid hso
      rw [hso]
      clear k4 k5 k7 k8 hB hso HRG HKE hrd hr1 hr2 c0 c1 f0 f1
      obtain ⟨ag, hag⟩ : ∃ a, agV i.op = a := ⟨_, rfl⟩
      rw [hag] at KV
      have hag1 : 0 ≤ ag ∧ ag ≤ 31 := by omega
      have HAG := Lib.hid hag
      clear hag a0 a1 m2
      cases ha : i.aq <;> cases hl : i.rl
      all_goals
        have HA := Lib.hid ha
        have HL := Lib.hid hl
        go_wp2_with (first
          | (go_at_call 75; refine (KT g _ HJ).mono ?_; rintro e w3 ⟨rfl, HJ2⟩; clear q0 q4 q5 q6 q7 q8 HJ; have HJ := HJ2; clear HJ2; obtain ⟨q0, _, _, _, q4, q5, q6, q7, q8⟩ := HJ.cells)
          | (go_at_call 72; refine (KH g _ HJ).mono ?_; rintro e w3 ⟨rfl, HJ2⟩; clear q0 q4 q5 q6 q7 q8 HJ; have HJ := HJ2; clear HJ2; obtain ⟨q0, _, _, _, q4, q5, q6, q7, q8⟩ := HJ.cells)
          | (go_at_call 70; refine (KM g _ HJ).mono ?_; rintro e w3 ⟨rfl, HJ2⟩; clear q0 q4 q5 q6 q7 q8 HJ; have HJ := HJ2; clear HJ2; obtain ⟨q0, _, _, _, q4, q5, q6, q7, q8⟩ := HJ.cells)
          | (go_at_call 77; refine (KV g _ HJ).mono ?_; rintro e w3 ⟨rfl, HJ2⟩; clear q0 q4 q5 q6 q7 q8 HJ; have HJ := HJ2; clear HJ2; obtain ⟨q0, _, _, _, q4, q5, q6, q7, q8⟩ := HJ.cells))
        go_ret
        refine ⟨ret_int ?_, HJ.1⟩
        unfold wordV
        rw [HBB.out]
        simp only [HT.out, HS5.out, m3, HAG.out, HA.out, HL.out, if_neg (by decide : ¬ (0 : Int) < 0), if_neg HK8.out, HSO.out, if_pos k6]
        unfold b01
        simp
        try omega
    · as_aux_lemma =>
      obtain ⟨k1, k2, k3, k4, k5, k6, k7, k8⟩ := cls_12 ⟨k, hk⟩ hc
      obtain ⟨m1, m2, m3⟩ := cm_12 ⟨k, hk⟩ (hc)
      simp only [← HKE.out] at k1 k2 k3 k4 k5 k6 k7 k8 m1 m2 m3
      have h53 := h53 (by show clL.getD k 99 ≠ 10; omega)
      have HT := Lib.hid k4
      have HS5 := Lib.hid k5
      rw [k4] at KM
      rw [k5] at KH
      rw [m3] at KT
      have KV := KV (by have := srt_spec i.op; omega)
      have b50 : (i.op == 50) = false := by simp; omega
      have b51 : (i.op == 51) = false := by simp; omega
      have b53 : (i.op == 53) = false := by simp; omega
      have HK7 := Lib.hid k7
      have HK8 := Lib.hid k8
      have HBB := Lib.hid hB
      obtain ⟨so, hso⟩ : ∃ so, srt i.op = so := ⟨_, rfl⟩
      rw [hso] at k6
      have HSO := Lib.hid hso
      rw [hso]
      clear k4 k5 k7 k8 hB hso HRG HKE hrd hr1 hr2 c0 c1 f0 f1
      obtain ⟨ag, hag⟩ : ∃ a, agV i.op = a := ⟨_, rfl⟩
      rw [hag] at KV
      have hag1 : 0 ≤ ag ∧ ag ≤ 31 := by omega
      have HAG := Lib.hid hag
      clear hag a0 a1 m2
      cases ha : i.aq <;> cases hl : i.rl
      all_goals
        have HA := Lib.hid ha
        have HL := Lib.hid hl
        go_wp2_with (first
          | (go_at_call 75; refine (KT g _ HJ).mono ?_; rintro e w3 ⟨rfl, HJ2⟩; clear q0 q4 q5 q6 q7 q8 HJ; have HJ := HJ2; clear HJ2; obtain ⟨q0, _, _, _, q4, q5, q6, q7, q8⟩ := HJ.cells)
          | (go_at_call 72; refine (KH g _ HJ).mono ?_; rintro e w3 ⟨rfl, HJ2⟩; clear q0 q4 q5 q6 q7 q8 HJ; have HJ := HJ2; clear HJ2; obtain ⟨q0, _, _, _, q4, q5, q6, q7, q8⟩ := HJ.cells)
          | (go_at_call 70; refine (KM g _ HJ).mono ?_; rintro e w3 ⟨rfl, HJ2⟩; clear q0 q4 q5 q6 q7 q8 HJ; have HJ := HJ2; clear HJ2; obtain ⟨q0, _, _, _, q4, q5, q6, q7, q8⟩ := HJ.cells)
          | (go_at_call 77; refine (KV g _ HJ).mono ?_; rintro e w3 ⟨rfl, HJ2⟩; clear q0 q4 q5 q6 q7 q8 HJ; have HJ := HJ2; clear HJ2; obtain ⟨q0, _, _, _, q4, q5, q6, q7, q8⟩ := HJ.cells))
        go_ret
        refine ⟨ret_int ?_, HJ.1⟩
        unfold wordV
        rw [HBB.out]
        simp only [HT.out, HS5.out, m3, HAG.out, HA.out, HL.out, if_neg (by decide : ¬ (0 : Int) < 0), if_neg HK8.out, HSO.out, if_pos k6]
        unfold b01
        simp
        try omega
end Go.Proofs.YtolmecnjolfjgaaGreatDoor
