/- The contract of the document's Decode. -/
import Derived.Test.YtolmecnjolfjgaaGreatDoorRows
import Derived.Test.YtolmecnjolfjgaaGreatDoorDq
import Derived.Test.YtolmecnjolfjgaaGreatDoorIs
import Derived.Test.YtolmecnjolfjgaaGreatDoorFm
import Derived.Test.YtolmecnjolfjgaaGreatDoorRp
import Derived.Test.YtolmecnjolfjgaaGreatDoorBa
import Derived.Test.YtolmecnjolfjgaaGreatDoorJn
import Derived.WalkKit
import Derived.WalkLawsBesides
import Derived.Deep.QuietTactic
import Derived.BigQuiet
import Derived.WalkSmall
import Derived.WalkSpells
import Derived.Lib.Hide
import Derived.Below
import Derived.Outline
import Derived.LoopTactic
import Derived.Deep.LoopGhost
import Derived.Deep.Cut
set_option maxRecDepth 100000
namespace Go.Proofs.YtolmecnjolfjgaaGreatDoor
open Go.RowKit

theorem Jn.as {W0 w : World} {i i' : Ins} {g : Nat} (e : i' = i) (h : Jn W0 i g w) : Jn W0 i' g w := by rw [e]; exact h
theorem insOf_by (v : Int) {op : Int} (wr fi se hi b50 b51 : Bool) (fm sh : Int) (k1 : wrB op = wr) (k2 : firB op = fi) (k3 : secB op = se) (k4 : fmV op = fm) (k5 : shV op = sh) (k6 : decide (10 ≤ srt op) = hi) (k7 : (op == 50) = b50) (k8 : (op == 51) = b51) :
    insOf v op = ⟨op, if wr then v / 128 % 32 else 0, if fi then v / 32768 % 32 else 0, if se then v / 1048576 % 32 else 0, if 0 < fm then getK fm v 32 else if sh = 6 then v / 1048576 % 64 else if sh = 5 then v / 1048576 % 32 else 0,
      hi && decide (v / 67108864 % 2 = 1), hi && decide (v / 33554432 % 2 = 1), if b50 then v / 16777216 % 16 else if b51 then 3 else 0, if b50 then v / 1048576 % 16 else if b51 then 3 else 0⟩ := by
  subst k1 k2 k3 k4 k5 k6 k7 k8
  unfold insOf
  simp only [beq_iff_eq]
set_option maxRecDepth 100000 in
set_option maxHeartbeats 8000000 in
theorem rdec_any (HIS : ∀ op, 1 ≤ op ∧ op ≤ 75 → IsAt op) (v : Int) (v0 : 0 ≤ v) (v1 : v < 4294967296) (w : World) :
    Calls Tryz.prog 34 #[.int .u32 v] w fun e w' => e = .returned (.tuple #[insV (decI v), .bool (decB v)]) ∧ BW w w' := by
  go_enter Tryz.func34, Tryz.ntmps34
  go_wp2
  have HR : Hid (Blk (insCells noIns) 40 w.heap.size (w.alloc (.cells (insCells noIns) 40))) := Blk.new _ _ w
  have HB0 : Hid (Below w.heap.size w (w.alloc (.cells (insCells noIns) 40))) := (Below.refl _ _).alloc (Nat.le_refl _) _
  unfold noIns insCells at HR HB0
  simp only at HR HB0
  generalize w.alloc (.cells _ 40) = w0 at *
  have HRN : Hid (Blk (insCells noIns) 40 w.heap.size w0) := HR.out
  go_loopw [4] (fun v4 wr => ∃ k : Nat, v4 = .int .i64 ((k : Int) + 1) ∧ k ≤ 75 ∧ BW w0 wr ∧ Hid (opK v k = 0)) (fun v4 _ => (76 - intOf v4).toNat)
  case atStart => exact ⟨0, rfl, by omega, Below.refl _ _, (show Hid _ from rfl)⟩
  case round =>
    obtain ⟨k, rfl, hk, hbw, HK⟩ := hrel
    obtain ⟨w3, rfl⟩ : ∃ w3 : World, w3 = wr := ⟨_, rfl⟩
    by_cases hlt : k < 75
    · have hltI : (k : Int) + 1 ≤ 75 := by omega
      obtain ⟨op, hop⟩ : ∃ op : Int, op = (k : Int) + 1 := ⟨_, rfl⟩
      rw [← hop] at hltI ⊢
      have HOP := Lib.hid hop
      have hop1 : 1 ≤ op := by omega
      clear hop
      have HI := fun w (h : BW w0 w) => (HIS op ⟨hop1, hltI⟩ v w v0 v1).mono fun e w' (hh : _ ∧ _) => And.intro hh.1 (BW.on h hh.2)
      cases hb : iswB v op
      · rw [hb] at HI
        have HN := Lib.hid hb
        clear hb
        go_wp2_with (first
          | (go_at_call 66; refine (HI _ (by assumption)).mono ?_; rintro e w4 ⟨rfl, hb4⟩))
        go_roundw
        case rel => exact ⟨k + 1, by rw [HOP.out]; go_num, by omega, by assumption, (show Hid _ from opK_no HK.out (by rw [← HOP.out]; exact HN.out))⟩
        case measure => simp [intOf, HOP.out]; omega
      · rw [hb] at HI
        have HN := Lib.hid hb
        clear hb
        go_upto_region 6 with (first
          | (go_at_call 66; refine (HI _ (by assumption)).mono ?_; rintro e w4 ⟨rfl, hb4⟩))
        have HJ : Jn w0 ⟨op, 0, 0, 0, 0, false, false, 0, 0⟩ w4.heap.size (w4.alloc (.cells (insCells ⟨op, 0, 0, 0, 0, false, false, 0, 0⟩) 40)) := ⟨hb4.new _, Blk.new _ _ _, Below.size hb4⟩
        unfold insCells at HJ
        simp only at HJ
        generalize w4.alloc (.cells _ 40) = w5 at *
        obtain ⟨g, hg⟩ : ∃ g, w4.heap.size = g := ⟨_, rfl⟩
        rw [hg] at HJ ⊢
        clear hg
        have KW := fun i w (h : Jn w0 i g w) => (rwrites_any op (by omega) (by omega) w).mono fun e w' (hh : _ ∧ _) => And.intro hh.1 (h.on hh.2)
        have KF := fun i w (h : Jn w0 i g w) => (rfirst_any op (by omega) (by omega) w).mono fun e w' (hh : _ ∧ _) => And.intro hh.1 (h.on hh.2)
        have KS := fun i w (h : Jn w0 i g w) => (rsecond_any op (by omega) (by omega) w).mono fun e w' (hh : _ ∧ _) => And.intro hh.1 (h.on hh.2)
        have KM := fun i w (h : Jn w0 i g w) => (fm_any op ⟨hop1, hltI⟩ w).mono fun e w' (hh : _ ∧ _) => And.intro hh.1 (h.on hh.2)
        have KG := fun i w (h : Jn w0 i g w) => (rget_any (fmV op) v v0 v1 w).mono fun e w' (hh : _ ∧ _) => And.intro hh.1 (h.on hh.2)
        have KH := fun i w (h : Jn w0 i g w) => (sh_any op ⟨hop1, hltI⟩ w).mono fun e w' (hh : _ ∧ _) => And.intro hh.1 (h.on hh.2)
        have KO := fun i w (h : Jn w0 i g w) => (rsort_any op (by omega) (by omega) w).mono fun e w' (hh : _ ∧ _) => And.intro hh.1 (h.on hh.2)
        have HCL := classes ⟨hop1, hltI⟩
        clear HI hb4
        rcases HCL with HCL | HCL | HCL | HCL | HCL | HCL | HCL | HCL | HCL | HCL | HCL | HCL | HCL
        all_goals
          as_aux_lemma =>
          obtain ⟨k1, k2, k3, k4, k5, k6, k7, k8⟩ := HCL
          first
            | (have k6d : decide (10 ≤ srt op) = true := decide_eq_true k6)
            | (have k6d : decide (10 ≤ srt op) = false := decide_eq_false (by omega))
          first
            | (have b7 : (op == 50) = true := by simpa using k7)
            | (have b7 : (op == 50) = false := by first | simpa using k7 | (simp; omega))
          first
            | (have b8 : (op == 51) = true := by simpa using k8)
            | (have b8 : (op == 51) = false := by first | simpa using k8 | (simp; omega))
          have HE := Lib.hid (insOf_by v _ _ _ _ _ _ _ _ k1 k2 k3 k4 k5 k6d b7 b8)
          clear k6d
          rw [k1] at KW
          rw [k2] at KF
          rw [k3] at KS
          rw [k4] at KM KG
          rw [k5] at KH
          clear k1 k2 k3 k4 k5 k7 k8
          generalize srt op = so at *
          go_upto_region 27 with (first
            | (go_at_call 67; (first | ((with_reducible refine (KW _ _ HJ).mono ?_)) | ((with_reducible refine (KW _ _ (HJ.s1 _)).mono ?_)) | ((with_reducible refine (KW _ _ (HJ.s2 _)).mono ?_)) | ((with_reducible refine (KW _ _ (HJ.s3 _)).mono ?_)) | ((with_reducible refine (KW _ _ (HJ.s4 _)).mono ?_))); rintro e w6 ⟨rfl, HJ⟩; obtain ⟨c0, c1, c2, c3, c4, c5, c6, c7, c8⟩ := HJ.cells; obtain ⟨f1, f2, f3, f4, f5, f6, f7, f8⟩ := HJ.frees)
            | (go_at_call 68; (first | ((with_reducible refine (KF _ _ HJ).mono ?_)) | ((with_reducible refine (KF _ _ (HJ.s1 _)).mono ?_)) | ((with_reducible refine (KF _ _ (HJ.s2 _)).mono ?_)) | ((with_reducible refine (KF _ _ (HJ.s3 _)).mono ?_)) | ((with_reducible refine (KF _ _ (HJ.s4 _)).mono ?_))); rintro e w6 ⟨rfl, HJ⟩; obtain ⟨c0, c1, c2, c3, c4, c5, c6, c7, c8⟩ := HJ.cells; obtain ⟨f1, f2, f3, f4, f5, f6, f7, f8⟩ := HJ.frees)
            | (go_at_call 69; (first | ((with_reducible refine (KS _ _ HJ).mono ?_)) | ((with_reducible refine (KS _ _ (HJ.s1 _)).mono ?_)) | ((with_reducible refine (KS _ _ (HJ.s2 _)).mono ?_)) | ((with_reducible refine (KS _ _ (HJ.s3 _)).mono ?_)) | ((with_reducible refine (KS _ _ (HJ.s4 _)).mono ?_))); rintro e w6 ⟨rfl, HJ⟩; obtain ⟨c0, c1, c2, c3, c4, c5, c6, c7, c8⟩ := HJ.cells; obtain ⟨f1, f2, f3, f4, f5, f6, f7, f8⟩ := HJ.frees)
            | (go_at_call 70; (first | ((with_reducible refine (KM _ _ HJ).mono ?_)) | ((with_reducible refine (KM _ _ (HJ.s1 _)).mono ?_)) | ((with_reducible refine (KM _ _ (HJ.s2 _)).mono ?_)) | ((with_reducible refine (KM _ _ (HJ.s3 _)).mono ?_)) | ((with_reducible refine (KM _ _ (HJ.s4 _)).mono ?_))); rintro e w6 ⟨rfl, HJ⟩; obtain ⟨c0, c1, c2, c3, c4, c5, c6, c7, c8⟩ := HJ.cells; obtain ⟨f1, f2, f3, f4, f5, f6, f7, f8⟩ := HJ.frees)
            | (go_at_call 71; (first | ((with_reducible refine (KG _ _ HJ).mono ?_)) | ((with_reducible refine (KG _ _ (HJ.s1 _)).mono ?_)) | ((with_reducible refine (KG _ _ (HJ.s2 _)).mono ?_)) | ((with_reducible refine (KG _ _ (HJ.s3 _)).mono ?_)) | ((with_reducible refine (KG _ _ (HJ.s4 _)).mono ?_))); rintro e w6 ⟨rfl, HJ⟩; obtain ⟨c0, c1, c2, c3, c4, c5, c6, c7, c8⟩ := HJ.cells; obtain ⟨f1, f2, f3, f4, f5, f6, f7, f8⟩ := HJ.frees)
            | (go_at_call 72; (first | ((with_reducible refine (KH _ _ HJ).mono ?_)) | ((with_reducible refine (KH _ _ (HJ.s1 _)).mono ?_)) | ((with_reducible refine (KH _ _ (HJ.s2 _)).mono ?_)) | ((with_reducible refine (KH _ _ (HJ.s3 _)).mono ?_)) | ((with_reducible refine (KH _ _ (HJ.s4 _)).mono ?_))); rintro e w6 ⟨rfl, HJ⟩; obtain ⟨c0, c1, c2, c3, c4, c5, c6, c7, c8⟩ := HJ.cells; obtain ⟨f1, f2, f3, f4, f5, f6, f7, f8⟩ := HJ.frees)
            | (go_at_call 46; (first | ((with_reducible refine (KO _ _ HJ).mono ?_)) | ((with_reducible refine (KO _ _ (HJ.s1 _)).mono ?_)) | ((with_reducible refine (KO _ _ (HJ.s2 _)).mono ?_)) | ((with_reducible refine (KO _ _ (HJ.s3 _)).mono ?_)) | ((with_reducible refine (KO _ _ (HJ.s4 _)).mono ?_))); rintro e w6 ⟨rfl, HJ⟩; obtain ⟨c0, c1, c2, c3, c4, c5, c6, c7, c8⟩ := HJ.cells; obtain ⟨f1, f2, f3, f4, f5, f6, f7, f8⟩ := HJ.frees))
          first
            | (have HF := Jn.as HE.out HJ)
            | (have HF := Jn.as HE.out ((HJ.s7 (v / 16777216 % 16)).s8 (v / 1048576 % 16)))
            | (have HF := Jn.as HE.out ((HJ.s7 3).s8 3))
            | (have HF := Jn.as HE.out ((HJ.s5 (v / 67108864 % 2 == 1)).s6 (v / 33554432 % 2 == 1)))
          obtain ⟨w7, hs, hb7, hbw7⟩ := HF.out (P := Tryz.prog) HRN.out HB0.out
          have HJB := Lib.hid HF.2.1
          clear HE c0 c1 c2 c3 c4 c5 c6 c7 c8 f1 f2 f3 f4 f5 f6 f7 f8
          go_wp2_with (with_reducible refine load_blk (o := ⟨some 90, _, _, _, _, _⟩) rfl 40 (.tmp 5) rfl HJB.out rfl Tryz.underlying40 rfl (by kernel_rfl) ?_)
          have HO : Hid (opW v = op) := by have := opW_yes (show k < 75 by omega) HK.out (by rw [← HOP.out]; exact HN.out); rw [← HOP.out] at this; exact this
          have HD1 : decI v = insOf v op := by unfold decI; rw [HO.out, if_neg (by omega)]
          have HD2 : decB v = true := by unfold decB; rw [HO.out, decide_eq_false (by omega)]; rfl
          rw [HD1, HD2]
          exact bodyPost_ret (results_blk rfl rfl hb7 Tryz.underlying40 rfl (by kernel_rfl)) rfl ⟨rfl, hbw7⟩
    · obtain rfl : k = 75 := by omega
      have HO : Hid (opW v = 0) := HK.out
      have hbw2 : Below w.heap.size w w3 := HB0.out.trans (Below.mono hbw HB0.out.size)
      have HZ := Lib.hid (HRN.out.within hbw HRN.out.lt)
      have c0 := HZ.out.cell 0
      have c1 := HZ.out.cell 1
      have c2 := HZ.out.cell 2
      have c3 := HZ.out.cell 3
      have c4 := HZ.out.cell 4
      have c5 := HZ.out.cell 5
      have c6 := HZ.out.cell 6
      have c7 := HZ.out.cell 7
      have c8 := HZ.out.cell 8
      simp only [noIns, insCells] at c0 c1 c2 c3 c4 c5 c6 c7 c8
      have f0 := HZ.out.free 0
      have f1 := HZ.out.free 1
      have f2 := HZ.out.free 2
      have f3 := HZ.out.free 3
      have f4 := HZ.out.free 4
      have f5 := HZ.out.free 5
      have f6 := HZ.out.free 6
      have f7 := HZ.out.free 7
      have f8 := HZ.out.free 8
      have HB2 := Lib.hid hbw2
      clear hbw2
      go_wp2
      have HD1 : decI v = noIns := by unfold decI; rw [HO.out, if_pos rfl]
      have HD2 : decB v = false := by unfold decB; rw [HO.out, decide_eq_true rfl]; rfl
      rw [HD1, HD2]
      have HW := (((((((((HZ.out.set 0 (.int .i64 0)).set 1 (.int .i64 0)).set 2 (.int .i64 0)).set 3 (.int .i64 0)).set 4 (.int .i64 0)).set 5 (.bool false)).set 6 (.bool false)).set 7 (.int .i64 0)).set 8 (.int .i64 0))
      have HW' : Blk (insCells noIns) 40 w.heap.size _ := HW
      refine bodyPost_ret (results_blk rfl rfl HW' Tryz.underlying40 rfl (by kernel_rfl)) rfl ⟨rfl, ?_⟩
      exact ((((((((HB2.out.setCell (Nat.le_refl _) _).setCell (Nat.le_refl _) _).setCell (Nat.le_refl _) _).setCell (Nat.le_refl _) _).setCell (Nat.le_refl _) _).setCell (Nat.le_refl _) _).setCell (Nat.le_refl _) _).setCell (Nat.le_refl _) _).setCell (Nat.le_refl _) _
end Go.Proofs.YtolmecnjolfjgaaGreatDoor
