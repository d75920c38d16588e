/- Package lsq: Clash. -/
import Derived.Test.YtoaonoflekcccaaDoorXk
set_option maxRecDepth 100000
set_option linter.unusedVariables false
namespace Go.Proofs.YtoaonoflekcccaaDoor
open Go.RowKit

theorem cla_next (l : List Slt) (x : Slt) {j : Nat} (h : j < l.length) : claG l x (l.length - j) j = if ldS (sAt l j) = true ∧ (sAt l j).bound = true ∧ ovS x (sAt l j) = true then (j : Int) else claG l x (l.length - (j + 1)) (j + 1) := by
  rw [show l.length - j = (l.length - (j + 1)) + 1 by omega]
  rfl
set_option maxHeartbeats 4000000 in
theorem clash_no {l : List Slt} {A : Option Addr} {w : World} (h : FL l A w) (cap : Nat) (i : Int) (hp : ¬ (0 ≤ i ∧ i < l.length)) :
    Calls Tryd.prog 8 #[.slice A l.length cap, .int .i64 i] w fun r w' => r = .returned (.int .i64 (claS l i)) ∧ BW w w' := by
  have HE : Hid (claS l i = -1) := by show _ = _; unfold claS; rw [if_neg (fun a => hp ⟨a.1, a.2.1⟩)]
  have HPL := Lib.hid (isPlace_c A l.length cap i w)
  rw [decide_eq_false hp] at HPL
  clear h hp
  generalize l.length = L at *
  go_enter Tryd.func8, Tryd.ntmps8
  go_wp2_with (first
    | (go_at_call 10; refine HPL.out.mono ?_; rintro e1 w1 ⟨rfl, rfl⟩))
  go_ret
  exact ⟨by rw [HE.out]; rfl, Below.refl _ _⟩
set_option maxHeartbeats 8000000 in
theorem clash_at {l : List Slt} {A : Option Addr} {w : World} (h : FL l A w) (cap : Nat) (i : Nat) (hi : i < l.length) :
    Calls Tryd.prog 8 #[.slice A l.length cap, .int .i64 (i : Int)] w fun r w' => r = .returned (.int .i64 (claS l i)) ∧ BW w w' := by
  have HPL := Lib.hid (isPlace_c A l.length cap (i : Int) w)
  rw [decide_eq_true (⟨by omega, by omega⟩ : 0 ≤ (i : Int) ∧ (i : Int) < l.length)] at HPL
  obtain ⟨b, off, rfl, hb, hcs⟩ := h.cells hi
  have HCS := Lib.hid hcs
  have HCW := Lib.hid (hcs w (Below.refl _ _))
  have HIL := Lib.hid hi
  have HST := Lib.hid (isStore_c (sAt l i) (h.at hi) w h.tab)
  have HAT := Lib.hid (fun y (hy : BW w y) => isAtomic_c (sAt l i) (h.at hi) y (h.tab.below hy))
  have HALL := Lib.hid (fun m (hm : m < l.length) => h.cells hm)
  have HLD := Lib.hid (fun m (hm : m < l.length) y (hy : BW w y) => isLoad_c (sAt l m) (h.at hm) y (h.tab.below hy))
  have HOO := Lib.hid (fun m (hm : m < l.length) y (hy : BW w y) => overlap_c (sAt l i) (sAt l m) (h.at hi) (h.at hm) y (h.tab.below hy))
  have hlen := h.len
  have hiI : (0 : Int) ≤ (i : Int) ∧ (i : Int) < (l.length : Int) := by omega
  have HE1 : Hid (stS (sAt l i) = true ∨ atS (sAt l i) = true → claS l i = claG l (sAt l i) (l.length - (i + 1)) (i + 1)) := fun a => by
    unfold claS; rw [Int.toNat_natCast, if_pos ⟨by omega, by omega, a⟩]
  have HE2 : Hid (stS (sAt l i) = false → atS (sAt l i) = false → claS l i = -1) := fun a c => by
    unfold claS; rw [Int.toNat_natCast, if_neg (by rw [a, c]; simp)]
  unfold sltV at HST HAT HLD HOO
  clear h hcs
  cases hs : stS (sAt l i) with
  | true =>
    rw [hs] at HST
    obtain ⟨R, hR⟩ : ∃ R, claS l i = R := ⟨_, rfl⟩
    have HR := Lib.hid hR
    have HR0 : Hid (R = claG l (sAt l i) (l.length - (i + 1)) (i + 1)) := hR.symm.trans (HE1.out (.inl hs))
    clear hs hR HE1 HE2 HAT
    go_enter Tryd.func8, Tryd.ntmps8
    go_wp2_with (first
      | (go_at_call 10; refine HPL.out.mono ?_; rintro e1 w1 ⟨rfl, rfl⟩)
      | (with_reducible refine Hz.val_arm (o := ⟨some 14, .load _ _, _, _, _, _⟩) (by kernel_rfl) (ex_slt (sAt l i) rfl rfl HCW.out Tryd.underlying29 rfl (by kernel_rfl)) ?_)
      | (go_at_call 24; refine HST.out.mono ?_; rintro e2 w2 ⟨rfl, hb2⟩; have HB2 := Lib.hid hb2; have HC2 := Lib.hid (HCS.out _ hb2); clear hb2))
    go_loopw [5] (fun i2 wx => ∃ j : Nat, i + 1 ≤ j ∧ j ≤ l.length ∧ i2 = .int .i64 (j : Int) ∧ Hid (BW w wx ∧ R = claG l (sAt l i) (l.length - j) j)) (fun i2 _ => l.length - (intOf i2).toNat)
    case atStart => exact ⟨i + 1, by omega, by omega, by first | rfl | go_num, HB2.out, HR0.out⟩
    case round =>
      obtain ⟨j, hj0, hj1, rfl, HH⟩ := hrel
      by_cases hlt : j < l.length
      · have hltI : (j : Int) < (l.length : Int) := by omega
        have HJL := Lib.hid hlt
        obtain ⟨b', off', e', _, hcj⟩ := HALL.out j hlt
        obtain ⟨rfl, rfl⟩ : b = b' ∧ off = off' := by simpa using e'
        have HCJ := Lib.hid hcj
        have HLJ := Lib.hid (fun y (hy : BW wr y) => HLD.out j hlt y (BW.on HH.out.1 hy))
        have HOV := Lib.hid (fun y (hy : BW wr y) => HOO.out j hlt y (BW.on HH.out.1 hy))
        have HBX := Lib.hid HH.out.1
        have HN := Lib.hid (HH.out.2.trans (cla_next l (sAt l i) hlt))
        have HBJ : Hid (∀ y, BW w y → y.cell? ⟨b, off + j * 18 + 9, none⟩ = some (.bool (sAt l j).bound)) := fun y hy => hcj y hy 9 _ rfl
        clear hcj e' HH
        cases h1 : ldS (sAt l j) with
        | false =>
          have HN2 : Hid (R = claG l (sAt l i) (l.length - (j + 1)) (j + 1)) := by show _ = _; rw [HN.out, if_neg (by rw [h1]; simp)]
          rw [h1] at HLJ
          clear h1 HN
          go_upto_region 6 with (fail)
          refine wp_region_held (S := BW wr) (by kernel_rfl) ?_
          change wpAnyH _ _ _ _ _ _ _ _ (World.drew _)
          have HS : BW wr wr.drew := Below.drew (Below.refl _ _)
          generalize wr.drew = wd at *
          refine hk_val (i := 0) (oi := ⟨some 34, .move _, _, _, _, _⟩) (.slice (some ⟨b, off, none⟩) l.length cap) rfl (by kernel_rfl) (by kernel_rfl) (by kernel_rfl) (fun _ _ _ h => h) (by kernel_rfl) (fun _ _ => rfl) HS ?_
          simp only [Act.put, List.setIfInBounds_toArray, List.set_cons_zero, List.set_cons_succ]
          refine hk_val (i := 1) (oi := ⟨some 35, .move _, _, _, _, _⟩) (.int .i64 (j : Int)) rfl (by kernel_rfl) (by kernel_rfl) (by kernel_rfl) (fun _ _ _ h => h) (by kernel_rfl) (fun _ _ => rfl) HS ?_
          simp only [Act.put, List.setIfInBounds_toArray, List.set_cons_zero, List.set_cons_succ]
          refine hk_val (i := 2) (oi := ⟨some 36, .indexAddr _ _ _, _, _, _, _⟩) (.pointer (some ⟨b, off + j * 18, none⟩)) rfl (by kernel_rfl) (by kernel_rfl) (by kernel_rfl) (fun _ _ _ h => h) (by kernel_rfl) (fun _ _ => Hz.ex_indexz rfl rfl rfl rfl HJL.out Tryd.underlying22 (by kernel_rfl)) HS ?_
          simp only [Act.put, List.setIfInBounds_toArray, List.set_cons_zero, List.set_cons_succ]
          refine hk_val (i := 3) (oi := ⟨some 37, .load _ _, _, _, _, _⟩) (.agg (sltC (sAt l j))) rfl (by kernel_rfl) (by kernel_rfl) (by kernel_rfl) (fun _ _ _ h => h) (by kernel_rfl) (fun y hy => ex_slt (sAt l j) rfl rfl (HCJ.out _ (BW.on HBX.out hy)) Tryd.underlying29 rfl (by kernel_rfl)) HS ?_
          simp only [Act.put, List.setIfInBounds_toArray, List.set_cons_zero, List.set_cons_succ]
          refine hk_call (i := 4) (oi := ⟨some 38, .call _, _, _, _, _⟩) (by kernel_rfl) rfl (by kernel_rfl) (by first | rfl | kernel_rfl) (HLJ.out _ HS) ?_
          rintro e w4 ⟨rfl, hb⟩
          have HS4 := HS.on hb
          refine ⟨_, rfl, HS4, ?_⟩
          simp only [Act.put, List.setIfInBounds_toArray, List.set_cons_zero, List.set_cons_succ]
          refine hk_val (i := 5) (oi := ⟨some 39, .move _, _, _, _, _⟩) (.bool false) rfl (by kernel_rfl) (by kernel_rfl) (by kernel_rfl) (fun _ _ _ h => h) (by kernel_rfl) (fun _ _ => rfl) HS4 ?_
          simp only [Act.put, List.setIfInBounds_toArray, List.set_cons_zero, List.set_cons_succ]
          refine hk_skip (i := 6) (oi := ⟨some 40, .move _, _, _, _, _⟩) rfl (by kernel_rfl) (by kernel_rfl) (by kernel_rfl) (fun _ _ _ h => h) (by kernel_rfl) HS4 ?_
          simp only [Act.put, List.setIfInBounds_toArray, List.set_cons_zero, List.set_cons_succ]
          refine hk_skip (i := 7) (oi := ⟨some 41, .move _, _, _, _, _⟩) rfl (by kernel_rfl) (by kernel_rfl) (by kernel_rfl) (fun _ _ _ h => h) (by kernel_rfl) HS4 ?_
          simp only [Act.put, List.setIfInBounds_toArray, List.set_cons_zero, List.set_cons_succ]
          refine hk_skip (i := 8) (oi := ⟨some 42, .indexAddr _ _ _, _, _, _, _⟩) rfl (by kernel_rfl) (by kernel_rfl) (by kernel_rfl) (fun _ _ _ h => h) (by kernel_rfl) HS4 ?_
          simp only [Act.put, List.setIfInBounds_toArray, List.set_cons_zero, List.set_cons_succ]
          refine hk_skip (i := 9) (oi := ⟨some 43, .fieldAddr _ _ _, _, _, _, _⟩) rfl (by kernel_rfl) (by kernel_rfl) (by kernel_rfl) (fun _ _ _ h => h) (by kernel_rfl) HS4 ?_
          simp only [Act.put, List.setIfInBounds_toArray, List.set_cons_zero, List.set_cons_succ]
          refine hk_skip (i := 10) (oi := ⟨some 44, .load _ _, _, _, _, _⟩) rfl (by kernel_rfl) (by kernel_rfl) (by kernel_rfl) (fun _ _ _ h => h) (by kernel_rfl) HS4 ?_
          simp only [Act.put, List.setIfInBounds_toArray, List.set_cons_zero, List.set_cons_succ]
          refine hk_val (i := 11) (oi := ⟨some 45, .pick _ _ _, _, _, _, _⟩) (.bool false) rfl (by kernel_rfl) (by kernel_rfl) (by kernel_rfl) (fun _ _ _ h => h) (by kernel_rfl) (fun _ _ => rfl) HS4 ?_
          simp only [Act.put, List.setIfInBounds_toArray, List.set_cons_zero, List.set_cons_succ]
          refine hk_val (i := 12) (oi := ⟨some 46, .move _, _, _, _, _⟩) (.bool false) rfl (by kernel_rfl) (by kernel_rfl) (by kernel_rfl) (fun _ _ _ h => h) (by kernel_rfl) (fun _ _ => rfl) HS4 ?_
          simp only [Act.put, List.setIfInBounds_toArray, List.set_cons_zero, List.set_cons_succ]
          refine hk_skip (i := 13) (oi := ⟨some 47, .move _, _, _, _, _⟩) rfl (by kernel_rfl) (by kernel_rfl) (by kernel_rfl) (fun _ _ _ h => h) (by kernel_rfl) HS4 ?_
          simp only [Act.put, List.setIfInBounds_toArray, List.set_cons_zero, List.set_cons_succ]
          refine hk_skip (i := 14) (oi := ⟨some 48, .move _, _, _, _, _⟩) rfl (by kernel_rfl) (by kernel_rfl) (by kernel_rfl) (fun _ _ _ h => h) (by kernel_rfl) HS4 ?_
          simp only [Act.put, List.setIfInBounds_toArray, List.set_cons_zero, List.set_cons_succ]
          refine hk_skip (i := 15) (oi := ⟨some 49, .indexAddr _ _ _, _, _, _, _⟩) rfl (by kernel_rfl) (by kernel_rfl) (by kernel_rfl) (fun _ _ _ h => h) (by kernel_rfl) HS4 ?_
          simp only [Act.put, List.setIfInBounds_toArray, List.set_cons_zero, List.set_cons_succ]
          refine hk_skip (i := 16) (oi := ⟨some 50, .load _ _, _, _, _, _⟩) rfl (by kernel_rfl) (by kernel_rfl) (by kernel_rfl) (fun _ _ _ h => h) (by kernel_rfl) HS4 ?_
          simp only [Act.put, List.setIfInBounds_toArray, List.set_cons_zero, List.set_cons_succ]
          refine hk_skip (i := 17) (oi := ⟨some 51, .move _, _, _, _, _⟩) rfl (by kernel_rfl) (by kernel_rfl) (by kernel_rfl) (fun _ _ _ h => h) (by kernel_rfl) HS4 ?_
          simp only [Act.put, List.setIfInBounds_toArray, List.set_cons_zero, List.set_cons_succ]
          refine hk_skip (i := 18) (oi := ⟨some 52, .move _, _, _, _, _⟩) rfl (by kernel_rfl) (by kernel_rfl) (by kernel_rfl) (fun _ _ _ h => h) (by kernel_rfl) HS4 ?_
          simp only [Act.put, List.setIfInBounds_toArray, List.set_cons_zero, List.set_cons_succ]
          refine hk_skip (i := 19) (oi := ⟨some 53, .indexAddr _ _ _, _, _, _, _⟩) rfl (by kernel_rfl) (by kernel_rfl) (by kernel_rfl) (fun _ _ _ h => h) (by kernel_rfl) HS4 ?_
          simp only [Act.put, List.setIfInBounds_toArray, List.set_cons_zero, List.set_cons_succ]
          refine hk_skip (i := 20) (oi := ⟨some 54, .load _ _, _, _, _, _⟩) rfl (by kernel_rfl) (by kernel_rfl) (by kernel_rfl) (fun _ _ _ h => h) (by kernel_rfl) HS4 ?_
          simp only [Act.put, List.setIfInBounds_toArray, List.set_cons_zero, List.set_cons_succ]
          refine hk_skip (i := 21) (oi := ⟨some 55, .call _, _, _, _, _⟩) rfl (by kernel_rfl) (by kernel_rfl) (by kernel_rfl) (fun _ _ _ h => h) (by kernel_rfl) HS4 ?_
          simp only [Act.put, List.setIfInBounds_toArray, List.set_cons_zero, List.set_cons_succ]
          refine hk_val (i := 22) (oi := ⟨some 56, .pick _ _ _, _, _, _, _⟩) (.bool false) rfl (by kernel_rfl) (by kernel_rfl) (by kernel_rfl) (fun _ _ _ h => h) (by kernel_rfl) (fun _ _ => rfl) HS4 ?_
          simp only [Act.put, List.setIfInBounds_toArray, List.set_cons_zero, List.set_cons_succ]
          refine wpAnyH_done (by kernel_rfl) ?_ _
          go_wp2
          go_roundw
          case rel => exact ⟨j + 1, by omega, by omega, by first | rfl | go_num, BW.on HBX.out HS4, HN2.out⟩
          case measure => simp [intOf]; omega
        | true =>
          rw [h1] at HLJ
          cases h2 : (sAt l j).bound with
          | false =>
            have HN2 : Hid (R = claG l (sAt l i) (l.length - (j + 1)) (j + 1)) := by show _ = _; rw [HN.out, if_neg (by rw [h2]; simp)]
            rw [h2] at HBJ
            clear h1 h2 HN
            go_upto_region 6 with (fail)
            refine wp_region_held (S := BW wr) (by kernel_rfl) ?_
            change wpAnyH _ _ _ _ _ _ _ _ (World.drew _)
            have HS : BW wr wr.drew := Below.drew (Below.refl _ _)
            generalize wr.drew = wd at *
            refine hk_val (i := 0) (oi := ⟨some 34, .move _, _, _, _, _⟩) (.slice (some ⟨b, off, none⟩) l.length cap) rfl (by kernel_rfl) (by kernel_rfl) (by kernel_rfl) (fun _ _ _ h => h) (by kernel_rfl) (fun _ _ => rfl) HS ?_
            simp only [Act.put, List.setIfInBounds_toArray, List.set_cons_zero, List.set_cons_succ]
            refine hk_val (i := 1) (oi := ⟨some 35, .move _, _, _, _, _⟩) (.int .i64 (j : Int)) rfl (by kernel_rfl) (by kernel_rfl) (by kernel_rfl) (fun _ _ _ h => h) (by kernel_rfl) (fun _ _ => rfl) HS ?_
            simp only [Act.put, List.setIfInBounds_toArray, List.set_cons_zero, List.set_cons_succ]
            refine hk_val (i := 2) (oi := ⟨some 36, .indexAddr _ _ _, _, _, _, _⟩) (.pointer (some ⟨b, off + j * 18, none⟩)) rfl (by kernel_rfl) (by kernel_rfl) (by kernel_rfl) (fun _ _ _ h => h) (by kernel_rfl) (fun _ _ => Hz.ex_indexz rfl rfl rfl rfl HJL.out Tryd.underlying22 (by kernel_rfl)) HS ?_
            simp only [Act.put, List.setIfInBounds_toArray, List.set_cons_zero, List.set_cons_succ]
            refine hk_val (i := 3) (oi := ⟨some 37, .load _ _, _, _, _, _⟩) (.agg (sltC (sAt l j))) rfl (by kernel_rfl) (by kernel_rfl) (by kernel_rfl) (fun _ _ _ h => h) (by kernel_rfl) (fun y hy => ex_slt (sAt l j) rfl rfl (HCJ.out _ (BW.on HBX.out hy)) Tryd.underlying29 rfl (by kernel_rfl)) HS ?_
            simp only [Act.put, List.setIfInBounds_toArray, List.set_cons_zero, List.set_cons_succ]
            refine hk_call (i := 4) (oi := ⟨some 38, .call _, _, _, _, _⟩) (by kernel_rfl) rfl (by kernel_rfl) (by first | rfl | kernel_rfl) (HLJ.out _ HS) ?_
            rintro e w4 ⟨rfl, hb⟩
            have HS4 := HS.on hb
            refine ⟨_, rfl, HS4, ?_⟩
            simp only [Act.put, List.setIfInBounds_toArray, List.set_cons_zero, List.set_cons_succ]
            refine hk_val (i := 5) (oi := ⟨some 39, .move _, _, _, _, _⟩) (.bool true) rfl (by kernel_rfl) (by kernel_rfl) (by kernel_rfl) (fun _ _ _ h => h) (by kernel_rfl) (fun _ _ => rfl) HS4 ?_
            simp only [Act.put, List.setIfInBounds_toArray, List.set_cons_zero, List.set_cons_succ]
            refine hk_val (i := 6) (oi := ⟨some 40, .move _, _, _, _, _⟩) (.slice (some ⟨b, off, none⟩) l.length cap) rfl (by kernel_rfl) (by kernel_rfl) (by kernel_rfl) (fun _ _ _ h => h) (by kernel_rfl) (fun _ _ => rfl) HS4 ?_
            simp only [Act.put, List.setIfInBounds_toArray, List.set_cons_zero, List.set_cons_succ]
            refine hk_val (i := 7) (oi := ⟨some 41, .move _, _, _, _, _⟩) (.int .i64 (j : Int)) rfl (by kernel_rfl) (by kernel_rfl) (by kernel_rfl) (fun _ _ _ h => h) (by kernel_rfl) (fun _ _ => rfl) HS4 ?_
            simp only [Act.put, List.setIfInBounds_toArray, List.set_cons_zero, List.set_cons_succ]
            refine hk_val (i := 8) (oi := ⟨some 42, .indexAddr _ _ _, _, _, _, _⟩) (.pointer (some ⟨b, off + j * 18, none⟩)) rfl (by kernel_rfl) (by kernel_rfl) (by kernel_rfl) (fun _ _ _ h => h) (by kernel_rfl) (fun _ _ => Hz.ex_indexz rfl rfl rfl rfl HJL.out Tryd.underlying22 (by kernel_rfl)) HS4 ?_
            simp only [Act.put, List.setIfInBounds_toArray, List.set_cons_zero, List.set_cons_succ]
            refine hk_val (i := 9) (oi := ⟨some 43, .fieldAddr _ _ _, _, _, _, _⟩) (.pointer (some ⟨b, off + j * 18 + 9, none⟩)) rfl (by kernel_rfl) (by kernel_rfl) (by kernel_rfl) (fun _ _ _ h => h) (by kernel_rfl) (fun _ _ => Hz.ex_fieldz (z := 9) rfl rfl (fun _ => by kernel_rfl)) HS4 ?_
            simp only [Act.put, List.setIfInBounds_toArray, List.set_cons_zero, List.set_cons_succ]
            refine hk_val (i := 10) (oi := ⟨some 44, .load _ _, _, _, _, _⟩) (.bool false) rfl (by kernel_rfl) (by kernel_rfl) (by kernel_rfl) (fun _ _ _ h => h) (by kernel_rfl) (fun y hy => ex_load rfl rfl (HBJ.out _ (BW.on HBX.out hy)) (by kernel_rfl)) HS4 ?_
            simp only [Act.put, List.setIfInBounds_toArray, List.set_cons_zero, List.set_cons_succ]
            refine hk_val (i := 11) (oi := ⟨some 45, .pick _ _ _, _, _, _, _⟩) (.bool false) rfl (by kernel_rfl) (by kernel_rfl) (by kernel_rfl) (fun _ _ _ h => h) (by kernel_rfl) (fun _ _ => rfl) HS4 ?_
            simp only [Act.put, List.setIfInBounds_toArray, List.set_cons_zero, List.set_cons_succ]
            refine hk_val (i := 12) (oi := ⟨some 46, .move _, _, _, _, _⟩) (.bool false) rfl (by kernel_rfl) (by kernel_rfl) (by kernel_rfl) (fun _ _ _ h => h) (by kernel_rfl) (fun _ _ => rfl) HS4 ?_
            simp only [Act.put, List.setIfInBounds_toArray, List.set_cons_zero, List.set_cons_succ]
            refine hk_skip (i := 13) (oi := ⟨some 47, .move _, _, _, _, _⟩) rfl (by kernel_rfl) (by kernel_rfl) (by kernel_rfl) (fun _ _ _ h => h) (by kernel_rfl) HS4 ?_
            simp only [Act.put, List.setIfInBounds_toArray, List.set_cons_zero, List.set_cons_succ]
            refine hk_skip (i := 14) (oi := ⟨some 48, .move _, _, _, _, _⟩) rfl (by kernel_rfl) (by kernel_rfl) (by kernel_rfl) (fun _ _ _ h => h) (by kernel_rfl) HS4 ?_
            simp only [Act.put, List.setIfInBounds_toArray, List.set_cons_zero, List.set_cons_succ]
            refine hk_skip (i := 15) (oi := ⟨some 49, .indexAddr _ _ _, _, _, _, _⟩) rfl (by kernel_rfl) (by kernel_rfl) (by kernel_rfl) (fun _ _ _ h => h) (by kernel_rfl) HS4 ?_
            simp only [Act.put, List.setIfInBounds_toArray, List.set_cons_zero, List.set_cons_succ]
            refine hk_skip (i := 16) (oi := ⟨some 50, .load _ _, _, _, _, _⟩) rfl (by kernel_rfl) (by kernel_rfl) (by kernel_rfl) (fun _ _ _ h => h) (by kernel_rfl) HS4 ?_
            simp only [Act.put, List.setIfInBounds_toArray, List.set_cons_zero, List.set_cons_succ]
            refine hk_skip (i := 17) (oi := ⟨some 51, .move _, _, _, _, _⟩) rfl (by kernel_rfl) (by kernel_rfl) (by kernel_rfl) (fun _ _ _ h => h) (by kernel_rfl) HS4 ?_
            simp only [Act.put, List.setIfInBounds_toArray, List.set_cons_zero, List.set_cons_succ]
            refine hk_skip (i := 18) (oi := ⟨some 52, .move _, _, _, _, _⟩) rfl (by kernel_rfl) (by kernel_rfl) (by kernel_rfl) (fun _ _ _ h => h) (by kernel_rfl) HS4 ?_
            simp only [Act.put, List.setIfInBounds_toArray, List.set_cons_zero, List.set_cons_succ]
            refine hk_skip (i := 19) (oi := ⟨some 53, .indexAddr _ _ _, _, _, _, _⟩) rfl (by kernel_rfl) (by kernel_rfl) (by kernel_rfl) (fun _ _ _ h => h) (by kernel_rfl) HS4 ?_
            simp only [Act.put, List.setIfInBounds_toArray, List.set_cons_zero, List.set_cons_succ]
            refine hk_skip (i := 20) (oi := ⟨some 54, .load _ _, _, _, _, _⟩) rfl (by kernel_rfl) (by kernel_rfl) (by kernel_rfl) (fun _ _ _ h => h) (by kernel_rfl) HS4 ?_
            simp only [Act.put, List.setIfInBounds_toArray, List.set_cons_zero, List.set_cons_succ]
            refine hk_skip (i := 21) (oi := ⟨some 55, .call _, _, _, _, _⟩) rfl (by kernel_rfl) (by kernel_rfl) (by kernel_rfl) (fun _ _ _ h => h) (by kernel_rfl) HS4 ?_
            simp only [Act.put, List.setIfInBounds_toArray, List.set_cons_zero, List.set_cons_succ]
            refine hk_val (i := 22) (oi := ⟨some 56, .pick _ _ _, _, _, _, _⟩) (.bool false) rfl (by kernel_rfl) (by kernel_rfl) (by kernel_rfl) (fun _ _ _ h => h) (by kernel_rfl) (fun _ _ => rfl) HS4 ?_
            simp only [Act.put, List.setIfInBounds_toArray, List.set_cons_zero, List.set_cons_succ]
            refine wpAnyH_done (by kernel_rfl) ?_ _
            go_wp2
            go_roundw
            case rel => exact ⟨j + 1, by omega, by omega, by first | rfl | go_num, BW.on HBX.out HS4, HN2.out⟩
            case measure => simp [intOf]; omega
          | true =>
            rw [h2] at HBJ
            cases h3 : ovS (sAt l i) (sAt l j) with
            | false =>
              have HN2 : Hid (R = claG l (sAt l i) (l.length - (j + 1)) (j + 1)) := by show _ = _; rw [HN.out, if_neg (by rw [h3]; simp)]
              rw [h3] at HOV
              clear h1 h2 h3 HN
              go_upto_region 6 with (fail)
              refine wp_region_held (S := BW wr) (by kernel_rfl) ?_
              change wpAnyH _ _ _ _ _ _ _ _ (World.drew _)
              have HS : BW wr wr.drew := Below.drew (Below.refl _ _)
              generalize wr.drew = wd at *
              refine hk_val (i := 0) (oi := ⟨some 34, .move _, _, _, _, _⟩) (.slice (some ⟨b, off, none⟩) l.length cap) rfl (by kernel_rfl) (by kernel_rfl) (by kernel_rfl) (fun _ _ _ h => h) (by kernel_rfl) (fun _ _ => rfl) HS ?_
              simp only [Act.put, List.setIfInBounds_toArray, List.set_cons_zero, List.set_cons_succ]
              refine hk_val (i := 1) (oi := ⟨some 35, .move _, _, _, _, _⟩) (.int .i64 (j : Int)) rfl (by kernel_rfl) (by kernel_rfl) (by kernel_rfl) (fun _ _ _ h => h) (by kernel_rfl) (fun _ _ => rfl) HS ?_
              simp only [Act.put, List.setIfInBounds_toArray, List.set_cons_zero, List.set_cons_succ]
              refine hk_val (i := 2) (oi := ⟨some 36, .indexAddr _ _ _, _, _, _, _⟩) (.pointer (some ⟨b, off + j * 18, none⟩)) rfl (by kernel_rfl) (by kernel_rfl) (by kernel_rfl) (fun _ _ _ h => h) (by kernel_rfl) (fun _ _ => Hz.ex_indexz rfl rfl rfl rfl HJL.out Tryd.underlying22 (by kernel_rfl)) HS ?_
              simp only [Act.put, List.setIfInBounds_toArray, List.set_cons_zero, List.set_cons_succ]
              refine hk_val (i := 3) (oi := ⟨some 37, .load _ _, _, _, _, _⟩) (.agg (sltC (sAt l j))) rfl (by kernel_rfl) (by kernel_rfl) (by kernel_rfl) (fun _ _ _ h => h) (by kernel_rfl) (fun y hy => ex_slt (sAt l j) rfl rfl (HCJ.out _ (BW.on HBX.out hy)) Tryd.underlying29 rfl (by kernel_rfl)) HS ?_
              simp only [Act.put, List.setIfInBounds_toArray, List.set_cons_zero, List.set_cons_succ]
              refine hk_call (i := 4) (oi := ⟨some 38, .call _, _, _, _, _⟩) (by kernel_rfl) rfl (by kernel_rfl) (by first | rfl | kernel_rfl) (HLJ.out _ HS) ?_
              rintro e w4 ⟨rfl, hb⟩
              have HS4 := HS.on hb
              refine ⟨_, rfl, HS4, ?_⟩
              simp only [Act.put, List.setIfInBounds_toArray, List.set_cons_zero, List.set_cons_succ]
              refine hk_val (i := 5) (oi := ⟨some 39, .move _, _, _, _, _⟩) (.bool true) rfl (by kernel_rfl) (by kernel_rfl) (by kernel_rfl) (fun _ _ _ h => h) (by kernel_rfl) (fun _ _ => rfl) HS4 ?_
              simp only [Act.put, List.setIfInBounds_toArray, List.set_cons_zero, List.set_cons_succ]
              refine hk_val (i := 6) (oi := ⟨some 40, .move _, _, _, _, _⟩) (.slice (some ⟨b, off, none⟩) l.length cap) rfl (by kernel_rfl) (by kernel_rfl) (by kernel_rfl) (fun _ _ _ h => h) (by kernel_rfl) (fun _ _ => rfl) HS4 ?_
              simp only [Act.put, List.setIfInBounds_toArray, List.set_cons_zero, List.set_cons_succ]
              refine hk_val (i := 7) (oi := ⟨some 41, .move _, _, _, _, _⟩) (.int .i64 (j : Int)) rfl (by kernel_rfl) (by kernel_rfl) (by kernel_rfl) (fun _ _ _ h => h) (by kernel_rfl) (fun _ _ => rfl) HS4 ?_
              simp only [Act.put, List.setIfInBounds_toArray, List.set_cons_zero, List.set_cons_succ]
              refine hk_val (i := 8) (oi := ⟨some 42, .indexAddr _ _ _, _, _, _, _⟩) (.pointer (some ⟨b, off + j * 18, none⟩)) rfl (by kernel_rfl) (by kernel_rfl) (by kernel_rfl) (fun _ _ _ h => h) (by kernel_rfl) (fun _ _ => Hz.ex_indexz rfl rfl rfl rfl HJL.out Tryd.underlying22 (by kernel_rfl)) HS4 ?_
              simp only [Act.put, List.setIfInBounds_toArray, List.set_cons_zero, List.set_cons_succ]
              refine hk_val (i := 9) (oi := ⟨some 43, .fieldAddr _ _ _, _, _, _, _⟩) (.pointer (some ⟨b, off + j * 18 + 9, none⟩)) rfl (by kernel_rfl) (by kernel_rfl) (by kernel_rfl) (fun _ _ _ h => h) (by kernel_rfl) (fun _ _ => Hz.ex_fieldz (z := 9) rfl rfl (fun _ => by kernel_rfl)) HS4 ?_
              simp only [Act.put, List.setIfInBounds_toArray, List.set_cons_zero, List.set_cons_succ]
              refine hk_val (i := 10) (oi := ⟨some 44, .load _ _, _, _, _, _⟩) (.bool true) rfl (by kernel_rfl) (by kernel_rfl) (by kernel_rfl) (fun _ _ _ h => h) (by kernel_rfl) (fun y hy => ex_load rfl rfl (HBJ.out _ (BW.on HBX.out hy)) (by kernel_rfl)) HS4 ?_
              simp only [Act.put, List.setIfInBounds_toArray, List.set_cons_zero, List.set_cons_succ]
              refine hk_val (i := 11) (oi := ⟨some 45, .pick _ _ _, _, _, _, _⟩) (.bool true) rfl (by kernel_rfl) (by kernel_rfl) (by kernel_rfl) (fun _ _ _ h => h) (by kernel_rfl) (fun _ _ => rfl) HS4 ?_
              simp only [Act.put, List.setIfInBounds_toArray, List.set_cons_zero, List.set_cons_succ]
              refine hk_val (i := 12) (oi := ⟨some 46, .move _, _, _, _, _⟩) (.bool true) rfl (by kernel_rfl) (by kernel_rfl) (by kernel_rfl) (fun _ _ _ h => h) (by kernel_rfl) (fun _ _ => rfl) HS4 ?_
              simp only [Act.put, List.setIfInBounds_toArray, List.set_cons_zero, List.set_cons_succ]
              refine hk_val (i := 13) (oi := ⟨some 47, .move _, _, _, _, _⟩) (.slice (some ⟨b, off, none⟩) l.length cap) rfl (by kernel_rfl) (by kernel_rfl) (by kernel_rfl) (fun _ _ _ h => h) (by kernel_rfl) (fun _ _ => rfl) HS4 ?_
              simp only [Act.put, List.setIfInBounds_toArray, List.set_cons_zero, List.set_cons_succ]
              refine hk_val (i := 14) (oi := ⟨some 48, .move _, _, _, _, _⟩) (.int .i64 (i : Int)) rfl (by kernel_rfl) (by kernel_rfl) (by kernel_rfl) (fun _ _ _ h => h) (by kernel_rfl) (fun _ _ => rfl) HS4 ?_
              simp only [Act.put, List.setIfInBounds_toArray, List.set_cons_zero, List.set_cons_succ]
              refine hk_val (i := 15) (oi := ⟨some 49, .indexAddr _ _ _, _, _, _, _⟩) (.pointer (some ⟨b, off + i * 18, none⟩)) rfl (by kernel_rfl) (by kernel_rfl) (by kernel_rfl) (fun _ _ _ h => h) (by kernel_rfl) (fun _ _ => Hz.ex_indexz rfl rfl rfl rfl HIL.out Tryd.underlying22 (by kernel_rfl)) HS4 ?_
              simp only [Act.put, List.setIfInBounds_toArray, List.set_cons_zero, List.set_cons_succ]
              refine hk_val (i := 16) (oi := ⟨some 50, .load _ _, _, _, _, _⟩) (.agg (sltC (sAt l i))) rfl (by kernel_rfl) (by kernel_rfl) (by kernel_rfl) (fun _ _ _ h => h) (by kernel_rfl) (fun y hy => ex_slt (sAt l i) rfl rfl (HCS.out _ (BW.on HBX.out hy)) Tryd.underlying29 rfl (by kernel_rfl)) HS4 ?_
              simp only [Act.put, List.setIfInBounds_toArray, List.set_cons_zero, List.set_cons_succ]
              refine hk_val (i := 17) (oi := ⟨some 51, .move _, _, _, _, _⟩) (.slice (some ⟨b, off, none⟩) l.length cap) rfl (by kernel_rfl) (by kernel_rfl) (by kernel_rfl) (fun _ _ _ h => h) (by kernel_rfl) (fun _ _ => rfl) HS4 ?_
              simp only [Act.put, List.setIfInBounds_toArray, List.set_cons_zero, List.set_cons_succ]
              refine hk_val (i := 18) (oi := ⟨some 52, .move _, _, _, _, _⟩) (.int .i64 (j : Int)) rfl (by kernel_rfl) (by kernel_rfl) (by kernel_rfl) (fun _ _ _ h => h) (by kernel_rfl) (fun _ _ => rfl) HS4 ?_
              simp only [Act.put, List.setIfInBounds_toArray, List.set_cons_zero, List.set_cons_succ]
              refine hk_val (i := 19) (oi := ⟨some 53, .indexAddr _ _ _, _, _, _, _⟩) (.pointer (some ⟨b, off + j * 18, none⟩)) rfl (by kernel_rfl) (by kernel_rfl) (by kernel_rfl) (fun _ _ _ h => h) (by kernel_rfl) (fun _ _ => Hz.ex_indexz rfl rfl rfl rfl HJL.out Tryd.underlying22 (by kernel_rfl)) HS4 ?_
              simp only [Act.put, List.setIfInBounds_toArray, List.set_cons_zero, List.set_cons_succ]
              refine hk_val (i := 20) (oi := ⟨some 54, .load _ _, _, _, _, _⟩) (.agg (sltC (sAt l j))) rfl (by kernel_rfl) (by kernel_rfl) (by kernel_rfl) (fun _ _ _ h => h) (by kernel_rfl) (fun y hy => ex_slt (sAt l j) rfl rfl (HCJ.out _ (BW.on HBX.out hy)) Tryd.underlying29 rfl (by kernel_rfl)) HS4 ?_
              simp only [Act.put, List.setIfInBounds_toArray, List.set_cons_zero, List.set_cons_succ]
              refine hk_call (i := 21) (oi := ⟨some 55, .call _, _, _, _, _⟩) (by kernel_rfl) rfl (by kernel_rfl) (by first | rfl | kernel_rfl) (HOV.out _ HS4) ?_
              rintro e w5 ⟨rfl, hb⟩
              have HS5 := HS4.on hb
              refine ⟨_, rfl, HS5, ?_⟩
              simp only [Act.put, List.setIfInBounds_toArray, List.set_cons_zero, List.set_cons_succ]
              refine hk_val (i := 22) (oi := ⟨some 56, .pick _ _ _, _, _, _, _⟩) (.bool false) rfl (by kernel_rfl) (by kernel_rfl) (by kernel_rfl) (fun _ _ _ h => h) (by kernel_rfl) (fun _ _ => rfl) HS5 ?_
              simp only [Act.put, List.setIfInBounds_toArray, List.set_cons_zero, List.set_cons_succ]
              refine wpAnyH_done (by kernel_rfl) ?_ _
              go_wp2
              go_roundw
              case rel => exact ⟨j + 1, by omega, by omega, by first | rfl | go_num, BW.on HBX.out HS5, HN2.out⟩
              case measure => simp [intOf]; omega
            | true =>
              have HN2 : Hid (R = (j : Int)) := by show _ = _; rw [HN.out, if_pos ⟨h1, h2, h3⟩]
              rw [h3] at HOV
              clear h1 h2 h3 HN
              go_upto_region 6 with (fail)
              refine wp_region_held (S := BW wr) (by kernel_rfl) ?_
              change wpAnyH _ _ _ _ _ _ _ _ (World.drew _)
              have HS : BW wr wr.drew := Below.drew (Below.refl _ _)
              generalize wr.drew = wd at *
              refine hk_val (i := 0) (oi := ⟨some 34, .move _, _, _, _, _⟩) (.slice (some ⟨b, off, none⟩) l.length cap) rfl (by kernel_rfl) (by kernel_rfl) (by kernel_rfl) (fun _ _ _ h => h) (by kernel_rfl) (fun _ _ => rfl) HS ?_
              simp only [Act.put, List.setIfInBounds_toArray, List.set_cons_zero, List.set_cons_succ]
              refine hk_val (i := 1) (oi := ⟨some 35, .move _, _, _, _, _⟩) (.int .i64 (j : Int)) rfl (by kernel_rfl) (by kernel_rfl) (by kernel_rfl) (fun _ _ _ h => h) (by kernel_rfl) (fun _ _ => rfl) HS ?_
              simp only [Act.put, List.setIfInBounds_toArray, List.set_cons_zero, List.set_cons_succ]
              refine hk_val (i := 2) (oi := ⟨some 36, .indexAddr _ _ _, _, _, _, _⟩) (.pointer (some ⟨b, off + j * 18, none⟩)) rfl (by kernel_rfl) (by kernel_rfl) (by kernel_rfl) (fun _ _ _ h => h) (by kernel_rfl) (fun _ _ => Hz.ex_indexz rfl rfl rfl rfl HJL.out Tryd.underlying22 (by kernel_rfl)) HS ?_
              simp only [Act.put, List.setIfInBounds_toArray, List.set_cons_zero, List.set_cons_succ]
              refine hk_val (i := 3) (oi := ⟨some 37, .load _ _, _, _, _, _⟩) (.agg (sltC (sAt l j))) rfl (by kernel_rfl) (by kernel_rfl) (by kernel_rfl) (fun _ _ _ h => h) (by kernel_rfl) (fun y hy => ex_slt (sAt l j) rfl rfl (HCJ.out _ (BW.on HBX.out hy)) Tryd.underlying29 rfl (by kernel_rfl)) HS ?_
              simp only [Act.put, List.setIfInBounds_toArray, List.set_cons_zero, List.set_cons_succ]
              refine hk_call (i := 4) (oi := ⟨some 38, .call _, _, _, _, _⟩) (by kernel_rfl) rfl (by kernel_rfl) (by first | rfl | kernel_rfl) (HLJ.out _ HS) ?_
              rintro e w4 ⟨rfl, hb⟩
              have HS4 := HS.on hb
              refine ⟨_, rfl, HS4, ?_⟩
              simp only [Act.put, List.setIfInBounds_toArray, List.set_cons_zero, List.set_cons_succ]
              refine hk_val (i := 5) (oi := ⟨some 39, .move _, _, _, _, _⟩) (.bool true) rfl (by kernel_rfl) (by kernel_rfl) (by kernel_rfl) (fun _ _ _ h => h) (by kernel_rfl) (fun _ _ => rfl) HS4 ?_
              simp only [Act.put, List.setIfInBounds_toArray, List.set_cons_zero, List.set_cons_succ]
              refine hk_val (i := 6) (oi := ⟨some 40, .move _, _, _, _, _⟩) (.slice (some ⟨b, off, none⟩) l.length cap) rfl (by kernel_rfl) (by kernel_rfl) (by kernel_rfl) (fun _ _ _ h => h) (by kernel_rfl) (fun _ _ => rfl) HS4 ?_
              simp only [Act.put, List.setIfInBounds_toArray, List.set_cons_zero, List.set_cons_succ]
              refine hk_val (i := 7) (oi := ⟨some 41, .move _, _, _, _, _⟩) (.int .i64 (j : Int)) rfl (by kernel_rfl) (by kernel_rfl) (by kernel_rfl) (fun _ _ _ h => h) (by kernel_rfl) (fun _ _ => rfl) HS4 ?_
              simp only [Act.put, List.setIfInBounds_toArray, List.set_cons_zero, List.set_cons_succ]
              refine hk_val (i := 8) (oi := ⟨some 42, .indexAddr _ _ _, _, _, _, _⟩) (.pointer (some ⟨b, off + j * 18, none⟩)) rfl (by kernel_rfl) (by kernel_rfl) (by kernel_rfl) (fun _ _ _ h => h) (by kernel_rfl) (fun _ _ => Hz.ex_indexz rfl rfl rfl rfl HJL.out Tryd.underlying22 (by kernel_rfl)) HS4 ?_
              simp only [Act.put, List.setIfInBounds_toArray, List.set_cons_zero, List.set_cons_succ]
              refine hk_val (i := 9) (oi := ⟨some 43, .fieldAddr _ _ _, _, _, _, _⟩) (.pointer (some ⟨b, off + j * 18 + 9, none⟩)) rfl (by kernel_rfl) (by kernel_rfl) (by kernel_rfl) (fun _ _ _ h => h) (by kernel_rfl) (fun _ _ => Hz.ex_fieldz (z := 9) rfl rfl (fun _ => by kernel_rfl)) HS4 ?_
              simp only [Act.put, List.setIfInBounds_toArray, List.set_cons_zero, List.set_cons_succ]
              refine hk_val (i := 10) (oi := ⟨some 44, .load _ _, _, _, _, _⟩) (.bool true) rfl (by kernel_rfl) (by kernel_rfl) (by kernel_rfl) (fun _ _ _ h => h) (by kernel_rfl) (fun y hy => ex_load rfl rfl (HBJ.out _ (BW.on HBX.out hy)) (by kernel_rfl)) HS4 ?_
              simp only [Act.put, List.setIfInBounds_toArray, List.set_cons_zero, List.set_cons_succ]
              refine hk_val (i := 11) (oi := ⟨some 45, .pick _ _ _, _, _, _, _⟩) (.bool true) rfl (by kernel_rfl) (by kernel_rfl) (by kernel_rfl) (fun _ _ _ h => h) (by kernel_rfl) (fun _ _ => rfl) HS4 ?_
              simp only [Act.put, List.setIfInBounds_toArray, List.set_cons_zero, List.set_cons_succ]
              refine hk_val (i := 12) (oi := ⟨some 46, .move _, _, _, _, _⟩) (.bool true) rfl (by kernel_rfl) (by kernel_rfl) (by kernel_rfl) (fun _ _ _ h => h) (by kernel_rfl) (fun _ _ => rfl) HS4 ?_
              simp only [Act.put, List.setIfInBounds_toArray, List.set_cons_zero, List.set_cons_succ]
              refine hk_val (i := 13) (oi := ⟨some 47, .move _, _, _, _, _⟩) (.slice (some ⟨b, off, none⟩) l.length cap) rfl (by kernel_rfl) (by kernel_rfl) (by kernel_rfl) (fun _ _ _ h => h) (by kernel_rfl) (fun _ _ => rfl) HS4 ?_
              simp only [Act.put, List.setIfInBounds_toArray, List.set_cons_zero, List.set_cons_succ]
              refine hk_val (i := 14) (oi := ⟨some 48, .move _, _, _, _, _⟩) (.int .i64 (i : Int)) rfl (by kernel_rfl) (by kernel_rfl) (by kernel_rfl) (fun _ _ _ h => h) (by kernel_rfl) (fun _ _ => rfl) HS4 ?_
              simp only [Act.put, List.setIfInBounds_toArray, List.set_cons_zero, List.set_cons_succ]
              refine hk_val (i := 15) (oi := ⟨some 49, .indexAddr _ _ _, _, _, _, _⟩) (.pointer (some ⟨b, off + i * 18, none⟩)) rfl (by kernel_rfl) (by kernel_rfl) (by kernel_rfl) (fun _ _ _ h => h) (by kernel_rfl) (fun _ _ => Hz.ex_indexz rfl rfl rfl rfl HIL.out Tryd.underlying22 (by kernel_rfl)) HS4 ?_
              simp only [Act.put, List.setIfInBounds_toArray, List.set_cons_zero, List.set_cons_succ]
              refine hk_val (i := 16) (oi := ⟨some 50, .load _ _, _, _, _, _⟩) (.agg (sltC (sAt l i))) rfl (by kernel_rfl) (by kernel_rfl) (by kernel_rfl) (fun _ _ _ h => h) (by kernel_rfl) (fun y hy => ex_slt (sAt l i) rfl rfl (HCS.out _ (BW.on HBX.out hy)) Tryd.underlying29 rfl (by kernel_rfl)) HS4 ?_
              simp only [Act.put, List.setIfInBounds_toArray, List.set_cons_zero, List.set_cons_succ]
              refine hk_val (i := 17) (oi := ⟨some 51, .move _, _, _, _, _⟩) (.slice (some ⟨b, off, none⟩) l.length cap) rfl (by kernel_rfl) (by kernel_rfl) (by kernel_rfl) (fun _ _ _ h => h) (by kernel_rfl) (fun _ _ => rfl) HS4 ?_
              simp only [Act.put, List.setIfInBounds_toArray, List.set_cons_zero, List.set_cons_succ]
              refine hk_val (i := 18) (oi := ⟨some 52, .move _, _, _, _, _⟩) (.int .i64 (j : Int)) rfl (by kernel_rfl) (by kernel_rfl) (by kernel_rfl) (fun _ _ _ h => h) (by kernel_rfl) (fun _ _ => rfl) HS4 ?_
              simp only [Act.put, List.setIfInBounds_toArray, List.set_cons_zero, List.set_cons_succ]
              refine hk_val (i := 19) (oi := ⟨some 53, .indexAddr _ _ _, _, _, _, _⟩) (.pointer (some ⟨b, off + j * 18, none⟩)) rfl (by kernel_rfl) (by kernel_rfl) (by kernel_rfl) (fun _ _ _ h => h) (by kernel_rfl) (fun _ _ => Hz.ex_indexz rfl rfl rfl rfl HJL.out Tryd.underlying22 (by kernel_rfl)) HS4 ?_
              simp only [Act.put, List.setIfInBounds_toArray, List.set_cons_zero, List.set_cons_succ]
              refine hk_val (i := 20) (oi := ⟨some 54, .load _ _, _, _, _, _⟩) (.agg (sltC (sAt l j))) rfl (by kernel_rfl) (by kernel_rfl) (by kernel_rfl) (fun _ _ _ h => h) (by kernel_rfl) (fun y hy => ex_slt (sAt l j) rfl rfl (HCJ.out _ (BW.on HBX.out hy)) Tryd.underlying29 rfl (by kernel_rfl)) HS4 ?_
              simp only [Act.put, List.setIfInBounds_toArray, List.set_cons_zero, List.set_cons_succ]
              refine hk_call (i := 21) (oi := ⟨some 55, .call _, _, _, _, _⟩) (by kernel_rfl) rfl (by kernel_rfl) (by first | rfl | kernel_rfl) (HOV.out _ HS4) ?_
              rintro e w5 ⟨rfl, hb⟩
              have HS5 := HS4.on hb
              refine ⟨_, rfl, HS5, ?_⟩
              simp only [Act.put, List.setIfInBounds_toArray, List.set_cons_zero, List.set_cons_succ]
              refine hk_val (i := 22) (oi := ⟨some 56, .pick _ _ _, _, _, _, _⟩) (.bool true) rfl (by kernel_rfl) (by kernel_rfl) (by kernel_rfl) (fun _ _ _ h => h) (by kernel_rfl) (fun _ _ => rfl) HS5 ?_
              simp only [Act.put, List.setIfInBounds_toArray, List.set_cons_zero, List.set_cons_succ]
              refine wpAnyH_done (by kernel_rfl) ?_ _
              go_wp2
              go_ret
              exact ⟨by rw [HR.out, HN2.out]; rfl, BW.on HBX.out HS5⟩
      · obtain rfl : j = l.length := by omega
        have HN2 : Hid (R = -1) := by show _ = _; rw [HH.out.2, Nat.sub_self]; rfl
        go_wp2
        go_ret
        exact ⟨by rw [HR.out, HN2.out]; rfl, HH.out.1⟩
  | false =>
    rw [hs] at HST
    cases ha : atS (sAt l i) with
    | true =>
      rw [ha] at HAT
      obtain ⟨R, hR⟩ : ∃ R, claS l i = R := ⟨_, rfl⟩
      have HR := Lib.hid hR
      have HR0 : Hid (R = claG l (sAt l i) (l.length - (i + 1)) (i + 1)) := hR.symm.trans (HE1.out (.inr ha))
      clear hs ha hR HE1 HE2
      go_enter Tryd.func8, Tryd.ntmps8
      go_wp2_with (first
        | (go_at_call 10; refine HPL.out.mono ?_; rintro e1 w1 ⟨rfl, rfl⟩)
        | (with_reducible refine Hz.val_arm (o := ⟨some 14, .load _ _, _, _, _, _⟩) (by kernel_rfl) (ex_slt (sAt l i) rfl rfl HCW.out Tryd.underlying29 rfl (by kernel_rfl)) ?_)
        | (go_at_call 24; refine HST.out.mono ?_; rintro e2 w2 ⟨rfl, hb2⟩; have HB2 := Lib.hid hb2; have HC2 := Lib.hid (HCS.out _ hb2); clear hb2)
        | (with_reducible refine Hz.val_arm (o := ⟨some 21, .load _ _, _, _, _, _⟩) (by kernel_rfl) (ex_slt (sAt l i) rfl rfl HC2.out Tryd.underlying29 rfl (by kernel_rfl)) ?_)
        | (go_at_call 14; refine (HAT.out _ HB2.out).mono ?_; rintro e3 w3 ⟨rfl, hb3⟩; have HB3 := Lib.hid (BW.on HB2.out hb3); clear hb3))
      go_loopw [5] (fun i2 wx => ∃ j : Nat, i + 1 ≤ j ∧ j ≤ l.length ∧ i2 = .int .i64 (j : Int) ∧ Hid (BW w wx ∧ R = claG l (sAt l i) (l.length - j) j)) (fun i2 _ => l.length - (intOf i2).toNat)
      case atStart => exact ⟨i + 1, by omega, by omega, by first | rfl | go_num, HB3.out, HR0.out⟩
      case round =>
        obtain ⟨j, hj0, hj1, rfl, HH⟩ := hrel
        by_cases hlt : j < l.length
        · have hltI : (j : Int) < (l.length : Int) := by omega
          have HJL := Lib.hid hlt
          obtain ⟨b', off', e', _, hcj⟩ := HALL.out j hlt
          obtain ⟨rfl, rfl⟩ : b = b' ∧ off = off' := by simpa using e'
          have HCJ := Lib.hid hcj
          have HLJ := Lib.hid (fun y (hy : BW wr y) => HLD.out j hlt y (BW.on HH.out.1 hy))
          have HOV := Lib.hid (fun y (hy : BW wr y) => HOO.out j hlt y (BW.on HH.out.1 hy))
          have HBX := Lib.hid HH.out.1
          have HN := Lib.hid (HH.out.2.trans (cla_next l (sAt l i) hlt))
          have HBJ : Hid (∀ y, BW w y → y.cell? ⟨b, off + j * 18 + 9, none⟩ = some (.bool (sAt l j).bound)) := fun y hy => hcj y hy 9 _ rfl
          clear hcj e' HH
          cases h1 : ldS (sAt l j) with
          | false =>
            have HN2 : Hid (R = claG l (sAt l i) (l.length - (j + 1)) (j + 1)) := by show _ = _; rw [HN.out, if_neg (by rw [h1]; simp)]
            rw [h1] at HLJ
            clear h1 HN
            go_upto_region 6 with (fail)
            refine wp_region_held (S := BW wr) (by kernel_rfl) ?_
            change wpAnyH _ _ _ _ _ _ _ _ (World.drew _)
            have HS : BW wr wr.drew := Below.drew (Below.refl _ _)
            generalize wr.drew = wd at *
            refine hk_val (i := 0) (oi := ⟨some 34, .move _, _, _, _, _⟩) (.slice (some ⟨b, off, none⟩) l.length cap) rfl (by kernel_rfl) (by kernel_rfl) (by kernel_rfl) (fun _ _ _ h => h) (by kernel_rfl) (fun _ _ => rfl) HS ?_
            simp only [Act.put, List.setIfInBounds_toArray, List.set_cons_zero, List.set_cons_succ]
            refine hk_val (i := 1) (oi := ⟨some 35, .move _, _, _, _, _⟩) (.int .i64 (j : Int)) rfl (by kernel_rfl) (by kernel_rfl) (by kernel_rfl) (fun _ _ _ h => h) (by kernel_rfl) (fun _ _ => rfl) HS ?_
            simp only [Act.put, List.setIfInBounds_toArray, List.set_cons_zero, List.set_cons_succ]
            refine hk_val (i := 2) (oi := ⟨some 36, .indexAddr _ _ _, _, _, _, _⟩) (.pointer (some ⟨b, off + j * 18, none⟩)) rfl (by kernel_rfl) (by kernel_rfl) (by kernel_rfl) (fun _ _ _ h => h) (by kernel_rfl) (fun _ _ => Hz.ex_indexz rfl rfl rfl rfl HJL.out Tryd.underlying22 (by kernel_rfl)) HS ?_
            simp only [Act.put, List.setIfInBounds_toArray, List.set_cons_zero, List.set_cons_succ]
            refine hk_val (i := 3) (oi := ⟨some 37, .load _ _, _, _, _, _⟩) (.agg (sltC (sAt l j))) rfl (by kernel_rfl) (by kernel_rfl) (by kernel_rfl) (fun _ _ _ h => h) (by kernel_rfl) (fun y hy => ex_slt (sAt l j) rfl rfl (HCJ.out _ (BW.on HBX.out hy)) Tryd.underlying29 rfl (by kernel_rfl)) HS ?_
            simp only [Act.put, List.setIfInBounds_toArray, List.set_cons_zero, List.set_cons_succ]
            refine hk_call (i := 4) (oi := ⟨some 38, .call _, _, _, _, _⟩) (by kernel_rfl) rfl (by kernel_rfl) (by first | rfl | kernel_rfl) (HLJ.out _ HS) ?_
            rintro e w4 ⟨rfl, hb⟩
            have HS4 := HS.on hb
            refine ⟨_, rfl, HS4, ?_⟩
            simp only [Act.put, List.setIfInBounds_toArray, List.set_cons_zero, List.set_cons_succ]
            refine hk_val (i := 5) (oi := ⟨some 39, .move _, _, _, _, _⟩) (.bool false) rfl (by kernel_rfl) (by kernel_rfl) (by kernel_rfl) (fun _ _ _ h => h) (by kernel_rfl) (fun _ _ => rfl) HS4 ?_
            simp only [Act.put, List.setIfInBounds_toArray, List.set_cons_zero, List.set_cons_succ]
            refine hk_skip (i := 6) (oi := ⟨some 40, .move _, _, _, _, _⟩) rfl (by kernel_rfl) (by kernel_rfl) (by kernel_rfl) (fun _ _ _ h => h) (by kernel_rfl) HS4 ?_
            simp only [Act.put, List.setIfInBounds_toArray, List.set_cons_zero, List.set_cons_succ]
            refine hk_skip (i := 7) (oi := ⟨some 41, .move _, _, _, _, _⟩) rfl (by kernel_rfl) (by kernel_rfl) (by kernel_rfl) (fun _ _ _ h => h) (by kernel_rfl) HS4 ?_
            simp only [Act.put, List.setIfInBounds_toArray, List.set_cons_zero, List.set_cons_succ]
            refine hk_skip (i := 8) (oi := ⟨some 42, .indexAddr _ _ _, _, _, _, _⟩) rfl (by kernel_rfl) (by kernel_rfl) (by kernel_rfl) (fun _ _ _ h => h) (by kernel_rfl) HS4 ?_
            simp only [Act.put, List.setIfInBounds_toArray, List.set_cons_zero, List.set_cons_succ]
            refine hk_skip (i := 9) (oi := ⟨some 43, .fieldAddr _ _ _, _, _, _, _⟩) rfl (by kernel_rfl) (by kernel_rfl) (by kernel_rfl) (fun _ _ _ h => h) (by kernel_rfl) HS4 ?_
            simp only [Act.put, List.setIfInBounds_toArray, List.set_cons_zero, List.set_cons_succ]
            refine hk_skip (i := 10) (oi := ⟨some 44, .load _ _, _, _, _, _⟩) rfl (by kernel_rfl) (by kernel_rfl) (by kernel_rfl) (fun _ _ _ h => h) (by kernel_rfl) HS4 ?_
            simp only [Act.put, List.setIfInBounds_toArray, List.set_cons_zero, List.set_cons_succ]
            refine hk_val (i := 11) (oi := ⟨some 45, .pick _ _ _, _, _, _, _⟩) (.bool false) rfl (by kernel_rfl) (by kernel_rfl) (by kernel_rfl) (fun _ _ _ h => h) (by kernel_rfl) (fun _ _ => rfl) HS4 ?_
            simp only [Act.put, List.setIfInBounds_toArray, List.set_cons_zero, List.set_cons_succ]
            refine hk_val (i := 12) (oi := ⟨some 46, .move _, _, _, _, _⟩) (.bool false) rfl (by kernel_rfl) (by kernel_rfl) (by kernel_rfl) (fun _ _ _ h => h) (by kernel_rfl) (fun _ _ => rfl) HS4 ?_
            simp only [Act.put, List.setIfInBounds_toArray, List.set_cons_zero, List.set_cons_succ]
            refine hk_skip (i := 13) (oi := ⟨some 47, .move _, _, _, _, _⟩) rfl (by kernel_rfl) (by kernel_rfl) (by kernel_rfl) (fun _ _ _ h => h) (by kernel_rfl) HS4 ?_
            simp only [Act.put, List.setIfInBounds_toArray, List.set_cons_zero, List.set_cons_succ]
            refine hk_skip (i := 14) (oi := ⟨some 48, .move _, _, _, _, _⟩) rfl (by kernel_rfl) (by kernel_rfl) (by kernel_rfl) (fun _ _ _ h => h) (by kernel_rfl) HS4 ?_
            simp only [Act.put, List.setIfInBounds_toArray, List.set_cons_zero, List.set_cons_succ]
            refine hk_skip (i := 15) (oi := ⟨some 49, .indexAddr _ _ _, _, _, _, _⟩) rfl (by kernel_rfl) (by kernel_rfl) (by kernel_rfl) (fun _ _ _ h => h) (by kernel_rfl) HS4 ?_
            simp only [Act.put, List.setIfInBounds_toArray, List.set_cons_zero, List.set_cons_succ]
            refine hk_skip (i := 16) (oi := ⟨some 50, .load _ _, _, _, _, _⟩) rfl (by kernel_rfl) (by kernel_rfl) (by kernel_rfl) (fun _ _ _ h => h) (by kernel_rfl) HS4 ?_
            simp only [Act.put, List.setIfInBounds_toArray, List.set_cons_zero, List.set_cons_succ]
            refine hk_skip (i := 17) (oi := ⟨some 51, .move _, _, _, _, _⟩) rfl (by kernel_rfl) (by kernel_rfl) (by kernel_rfl) (fun _ _ _ h => h) (by kernel_rfl) HS4 ?_
            simp only [Act.put, List.setIfInBounds_toArray, List.set_cons_zero, List.set_cons_succ]
            refine hk_skip (i := 18) (oi := ⟨some 52, .move _, _, _, _, _⟩) rfl (by kernel_rfl) (by kernel_rfl) (by kernel_rfl) (fun _ _ _ h => h) (by kernel_rfl) HS4 ?_
            simp only [Act.put, List.setIfInBounds_toArray, List.set_cons_zero, List.set_cons_succ]
            refine hk_skip (i := 19) (oi := ⟨some 53, .indexAddr _ _ _, _, _, _, _⟩) rfl (by kernel_rfl) (by kernel_rfl) (by kernel_rfl) (fun _ _ _ h => h) (by kernel_rfl) HS4 ?_
            simp only [Act.put, List.setIfInBounds_toArray, List.set_cons_zero, List.set_cons_succ]
            refine hk_skip (i := 20) (oi := ⟨some 54, .load _ _, _, _, _, _⟩) rfl (by kernel_rfl) (by kernel_rfl) (by kernel_rfl) (fun _ _ _ h => h) (by kernel_rfl) HS4 ?_
            simp only [Act.put, List.setIfInBounds_toArray, List.set_cons_zero, List.set_cons_succ]
            refine hk_skip (i := 21) (oi := ⟨some 55, .call _, _, _, _, _⟩) rfl (by kernel_rfl) (by kernel_rfl) (by kernel_rfl) (fun _ _ _ h => h) (by kernel_rfl) HS4 ?_
            simp only [Act.put, List.setIfInBounds_toArray, List.set_cons_zero, List.set_cons_succ]
            refine hk_val (i := 22) (oi := ⟨some 56, .pick _ _ _, _, _, _, _⟩) (.bool false) rfl (by kernel_rfl) (by kernel_rfl) (by kernel_rfl) (fun _ _ _ h => h) (by kernel_rfl) (fun _ _ => rfl) HS4 ?_
            simp only [Act.put, List.setIfInBounds_toArray, List.set_cons_zero, List.set_cons_succ]
            refine wpAnyH_done (by kernel_rfl) ?_ _
            go_wp2
            go_roundw
            case rel => exact ⟨j + 1, by omega, by omega, by first | rfl | go_num, BW.on HBX.out HS4, HN2.out⟩
            case measure => simp [intOf]; omega
          | true =>
            rw [h1] at HLJ
            cases h2 : (sAt l j).bound with
            | false =>
              have HN2 : Hid (R = claG l (sAt l i) (l.length - (j + 1)) (j + 1)) := by show _ = _; rw [HN.out, if_neg (by rw [h2]; simp)]
              rw [h2] at HBJ
              clear h1 h2 HN
              go_upto_region 6 with (fail)
              refine wp_region_held (S := BW wr) (by kernel_rfl) ?_
              change wpAnyH _ _ _ _ _ _ _ _ (World.drew _)
              have HS : BW wr wr.drew := Below.drew (Below.refl _ _)
              generalize wr.drew = wd at *
              refine hk_val (i := 0) (oi := ⟨some 34, .move _, _, _, _, _⟩) (.slice (some ⟨b, off, none⟩) l.length cap) rfl (by kernel_rfl) (by kernel_rfl) (by kernel_rfl) (fun _ _ _ h => h) (by kernel_rfl) (fun _ _ => rfl) HS ?_
              simp only [Act.put, List.setIfInBounds_toArray, List.set_cons_zero, List.set_cons_succ]
              refine hk_val (i := 1) (oi := ⟨some 35, .move _, _, _, _, _⟩) (.int .i64 (j : Int)) rfl (by kernel_rfl) (by kernel_rfl) (by kernel_rfl) (fun _ _ _ h => h) (by kernel_rfl) (fun _ _ => rfl) HS ?_
              simp only [Act.put, List.setIfInBounds_toArray, List.set_cons_zero, List.set_cons_succ]
              refine hk_val (i := 2) (oi := ⟨some 36, .indexAddr _ _ _, _, _, _, _⟩) (.pointer (some ⟨b, off + j * 18, none⟩)) rfl (by kernel_rfl) (by kernel_rfl) (by kernel_rfl) (fun _ _ _ h => h) (by kernel_rfl) (fun _ _ => Hz.ex_indexz rfl rfl rfl rfl HJL.out Tryd.underlying22 (by kernel_rfl)) HS ?_
              simp only [Act.put, List.setIfInBounds_toArray, List.set_cons_zero, List.set_cons_succ]
              refine hk_val (i := 3) (oi := ⟨some 37, .load _ _, _, _, _, _⟩) (.agg (sltC (sAt l j))) rfl (by kernel_rfl) (by kernel_rfl) (by kernel_rfl) (fun _ _ _ h => h) (by kernel_rfl) (fun y hy => ex_slt (sAt l j) rfl rfl (HCJ.out _ (BW.on HBX.out hy)) Tryd.underlying29 rfl (by kernel_rfl)) HS ?_
              simp only [Act.put, List.setIfInBounds_toArray, List.set_cons_zero, List.set_cons_succ]
              refine hk_call (i := 4) (oi := ⟨some 38, .call _, _, _, _, _⟩) (by kernel_rfl) rfl (by kernel_rfl) (by first | rfl | kernel_rfl) (HLJ.out _ HS) ?_
              rintro e w4 ⟨rfl, hb⟩
              have HS4 := HS.on hb
              refine ⟨_, rfl, HS4, ?_⟩
              simp only [Act.put, List.setIfInBounds_toArray, List.set_cons_zero, List.set_cons_succ]
              refine hk_val (i := 5) (oi := ⟨some 39, .move _, _, _, _, _⟩) (.bool true) rfl (by kernel_rfl) (by kernel_rfl) (by kernel_rfl) (fun _ _ _ h => h) (by kernel_rfl) (fun _ _ => rfl) HS4 ?_
              simp only [Act.put, List.setIfInBounds_toArray, List.set_cons_zero, List.set_cons_succ]
              refine hk_val (i := 6) (oi := ⟨some 40, .move _, _, _, _, _⟩) (.slice (some ⟨b, off, none⟩) l.length cap) rfl (by kernel_rfl) (by kernel_rfl) (by kernel_rfl) (fun _ _ _ h => h) (by kernel_rfl) (fun _ _ => rfl) HS4 ?_
              simp only [Act.put, List.setIfInBounds_toArray, List.set_cons_zero, List.set_cons_succ]
              refine hk_val (i := 7) (oi := ⟨some 41, .move _, _, _, _, _⟩) (.int .i64 (j : Int)) rfl (by kernel_rfl) (by kernel_rfl) (by kernel_rfl) (fun _ _ _ h => h) (by kernel_rfl) (fun _ _ => rfl) HS4 ?_
              simp only [Act.put, List.setIfInBounds_toArray, List.set_cons_zero, List.set_cons_succ]
              refine hk_val (i := 8) (oi := ⟨some 42, .indexAddr _ _ _, _, _, _, _⟩) (.pointer (some ⟨b, off + j * 18, none⟩)) rfl (by kernel_rfl) (by kernel_rfl) (by kernel_rfl) (fun _ _ _ h => h) (by kernel_rfl) (fun _ _ => Hz.ex_indexz rfl rfl rfl rfl HJL.out Tryd.underlying22 (by kernel_rfl)) HS4 ?_
              simp only [Act.put, List.setIfInBounds_toArray, List.set_cons_zero, List.set_cons_succ]
              refine hk_val (i := 9) (oi := ⟨some 43, .fieldAddr _ _ _, _, _, _, _⟩) (.pointer (some ⟨b, off + j * 18 + 9, none⟩)) rfl (by kernel_rfl) (by kernel_rfl) (by kernel_rfl) (fun _ _ _ h => h) (by kernel_rfl) (fun _ _ => Hz.ex_fieldz (z := 9) rfl rfl (fun _ => by kernel_rfl)) HS4 ?_
              simp only [Act.put, List.setIfInBounds_toArray, List.set_cons_zero, List.set_cons_succ]
              refine hk_val (i := 10) (oi := ⟨some 44, .load _ _, _, _, _, _⟩) (.bool false) rfl (by kernel_rfl) (by kernel_rfl) (by kernel_rfl) (fun _ _ _ h => h) (by kernel_rfl) (fun y hy => ex_load rfl rfl (HBJ.out _ (BW.on HBX.out hy)) (by kernel_rfl)) HS4 ?_
              simp only [Act.put, List.setIfInBounds_toArray, List.set_cons_zero, List.set_cons_succ]
              refine hk_val (i := 11) (oi := ⟨some 45, .pick _ _ _, _, _, _, _⟩) (.bool false) rfl (by kernel_rfl) (by kernel_rfl) (by kernel_rfl) (fun _ _ _ h => h) (by kernel_rfl) (fun _ _ => rfl) HS4 ?_
              simp only [Act.put, List.setIfInBounds_toArray, List.set_cons_zero, List.set_cons_succ]
              refine hk_val (i := 12) (oi := ⟨some 46, .move _, _, _, _, _⟩) (.bool false) rfl (by kernel_rfl) (by kernel_rfl) (by kernel_rfl) (fun _ _ _ h => h) (by kernel_rfl) (fun _ _ => rfl) HS4 ?_
              simp only [Act.put, List.setIfInBounds_toArray, List.set_cons_zero, List.set_cons_succ]
              refine hk_skip (i := 13) (oi := ⟨some 47, .move _, _, _, _, _⟩) rfl (by kernel_rfl) (by kernel_rfl) (by kernel_rfl) (fun _ _ _ h => h) (by kernel_rfl) HS4 ?_
              simp only [Act.put, List.setIfInBounds_toArray, List.set_cons_zero, List.set_cons_succ]
              refine hk_skip (i := 14) (oi := ⟨some 48, .move _, _, _, _, _⟩) rfl (by kernel_rfl) (by kernel_rfl) (by kernel_rfl) (fun _ _ _ h => h) (by kernel_rfl) HS4 ?_
              simp only [Act.put, List.setIfInBounds_toArray, List.set_cons_zero, List.set_cons_succ]
              refine hk_skip (i := 15) (oi := ⟨some 49, .indexAddr _ _ _, _, _, _, _⟩) rfl (by kernel_rfl) (by kernel_rfl) (by kernel_rfl) (fun _ _ _ h => h) (by kernel_rfl) HS4 ?_
              simp only [Act.put, List.setIfInBounds_toArray, List.set_cons_zero, List.set_cons_succ]
              refine hk_skip (i := 16) (oi := ⟨some 50, .load _ _, _, _, _, _⟩) rfl (by kernel_rfl) (by kernel_rfl) (by kernel_rfl) (fun _ _ _ h => h) (by kernel_rfl) HS4 ?_
              simp only [Act.put, List.setIfInBounds_toArray, List.set_cons_zero, List.set_cons_succ]
              refine hk_skip (i := 17) (oi := ⟨some 51, .move _, _, _, _, _⟩) rfl (by kernel_rfl) (by kernel_rfl) (by kernel_rfl) (fun _ _ _ h => h) (by kernel_rfl) HS4 ?_
              simp only [Act.put, List.setIfInBounds_toArray, List.set_cons_zero, List.set_cons_succ]
              refine hk_skip (i := 18) (oi := ⟨some 52, .move _, _, _, _, _⟩) rfl (by kernel_rfl) (by kernel_rfl) (by kernel_rfl) (fun _ _ _ h => h) (by kernel_rfl) HS4 ?_
              simp only [Act.put, List.setIfInBounds_toArray, List.set_cons_zero, List.set_cons_succ]
              refine hk_skip (i := 19) (oi := ⟨some 53, .indexAddr _ _ _, _, _, _, _⟩) rfl (by kernel_rfl) (by kernel_rfl) (by kernel_rfl) (fun _ _ _ h => h) (by kernel_rfl) HS4 ?_
              simp only [Act.put, List.setIfInBounds_toArray, List.set_cons_zero, List.set_cons_succ]
              refine hk_skip (i := 20) (oi := ⟨some 54, .load _ _, _, _, _, _⟩) rfl (by kernel_rfl) (by kernel_rfl) (by kernel_rfl) (fun _ _ _ h => h) (by kernel_rfl) HS4 ?_
              simp only [Act.put, List.setIfInBounds_toArray, List.set_cons_zero, List.set_cons_succ]
              refine hk_skip (i := 21) (oi := ⟨some 55, .call _, _, _, _, _⟩) rfl (by kernel_rfl) (by kernel_rfl) (by kernel_rfl) (fun _ _ _ h => h) (by kernel_rfl) HS4 ?_
              simp only [Act.put, List.setIfInBounds_toArray, List.set_cons_zero, List.set_cons_succ]
              refine hk_val (i := 22) (oi := ⟨some 56, .pick _ _ _, _, _, _, _⟩) (.bool false) rfl (by kernel_rfl) (by kernel_rfl) (by kernel_rfl) (fun _ _ _ h => h) (by kernel_rfl) (fun _ _ => rfl) HS4 ?_
              simp only [Act.put, List.setIfInBounds_toArray, List.set_cons_zero, List.set_cons_succ]
              refine wpAnyH_done (by kernel_rfl) ?_ _
              go_wp2
              go_roundw
              case rel => exact ⟨j + 1, by omega, by omega, by first | rfl | go_num, BW.on HBX.out HS4, HN2.out⟩
              case measure => simp [intOf]; omega
            | true =>
              rw [h2] at HBJ
              cases h3 : ovS (sAt l i) (sAt l j) with
              | false =>
                have HN2 : Hid (R = claG l (sAt l i) (l.length - (j + 1)) (j + 1)) := by show _ = _; rw [HN.out, if_neg (by rw [h3]; simp)]
                rw [h3] at HOV
                clear h1 h2 h3 HN
                go_upto_region 6 with (fail)
                refine wp_region_held (S := BW wr) (by kernel_rfl) ?_
                change wpAnyH _ _ _ _ _ _ _ _ (World.drew _)
                have HS : BW wr wr.drew := Below.drew (Below.refl _ _)
                generalize wr.drew = wd at *
                refine hk_val (i := 0) (oi := ⟨some 34, .move _, _, _, _, _⟩) (.slice (some ⟨b, off, none⟩) l.length cap) rfl (by kernel_rfl) (by kernel_rfl) (by kernel_rfl) (fun _ _ _ h => h) (by kernel_rfl) (fun _ _ => rfl) HS ?_
                simp only [Act.put, List.setIfInBounds_toArray, List.set_cons_zero, List.set_cons_succ]
                refine hk_val (i := 1) (oi := ⟨some 35, .move _, _, _, _, _⟩) (.int .i64 (j : Int)) rfl (by kernel_rfl) (by kernel_rfl) (by kernel_rfl) (fun _ _ _ h => h) (by kernel_rfl) (fun _ _ => rfl) HS ?_
                simp only [Act.put, List.setIfInBounds_toArray, List.set_cons_zero, List.set_cons_succ]
                refine hk_val (i := 2) (oi := ⟨some 36, .indexAddr _ _ _, _, _, _, _⟩) (.pointer (some ⟨b, off + j * 18, none⟩)) rfl (by kernel_rfl) (by kernel_rfl) (by kernel_rfl) (fun _ _ _ h => h) (by kernel_rfl) (fun _ _ => Hz.ex_indexz rfl rfl rfl rfl HJL.out Tryd.underlying22 (by kernel_rfl)) HS ?_
                simp only [Act.put, List.setIfInBounds_toArray, List.set_cons_zero, List.set_cons_succ]
                refine hk_val (i := 3) (oi := ⟨some 37, .load _ _, _, _, _, _⟩) (.agg (sltC (sAt l j))) rfl (by kernel_rfl) (by kernel_rfl) (by kernel_rfl) (fun _ _ _ h => h) (by kernel_rfl) (fun y hy => ex_slt (sAt l j) rfl rfl (HCJ.out _ (BW.on HBX.out hy)) Tryd.underlying29 rfl (by kernel_rfl)) HS ?_
                simp only [Act.put, List.setIfInBounds_toArray, List.set_cons_zero, List.set_cons_succ]
                refine hk_call (i := 4) (oi := ⟨some 38, .call _, _, _, _, _⟩) (by kernel_rfl) rfl (by kernel_rfl) (by first | rfl | kernel_rfl) (HLJ.out _ HS) ?_
                rintro e w4 ⟨rfl, hb⟩
                have HS4 := HS.on hb
                refine ⟨_, rfl, HS4, ?_⟩
                simp only [Act.put, List.setIfInBounds_toArray, List.set_cons_zero, List.set_cons_succ]
                refine hk_val (i := 5) (oi := ⟨some 39, .move _, _, _, _, _⟩) (.bool true) rfl (by kernel_rfl) (by kernel_rfl) (by kernel_rfl) (fun _ _ _ h => h) (by kernel_rfl) (fun _ _ => rfl) HS4 ?_
                simp only [Act.put, List.setIfInBounds_toArray, List.set_cons_zero, List.set_cons_succ]
                refine hk_val (i := 6) (oi := ⟨some 40, .move _, _, _, _, _⟩) (.slice (some ⟨b, off, none⟩) l.length cap) rfl (by kernel_rfl) (by kernel_rfl) (by kernel_rfl) (fun _ _ _ h => h) (by kernel_rfl) (fun _ _ => rfl) HS4 ?_
                simp only [Act.put, List.setIfInBounds_toArray, List.set_cons_zero, List.set_cons_succ]
                refine hk_val (i := 7) (oi := ⟨some 41, .move _, _, _, _, _⟩) (.int .i64 (j : Int)) rfl (by kernel_rfl) (by kernel_rfl) (by kernel_rfl) (fun _ _ _ h => h) (by kernel_rfl) (fun _ _ => rfl) HS4 ?_
                simp only [Act.put, List.setIfInBounds_toArray, List.set_cons_zero, List.set_cons_succ]
                refine hk_val (i := 8) (oi := ⟨some 42, .indexAddr _ _ _, _, _, _, _⟩) (.pointer (some ⟨b, off + j * 18, none⟩)) rfl (by kernel_rfl) (by kernel_rfl) (by kernel_rfl) (fun _ _ _ h => h) (by kernel_rfl) (fun _ _ => Hz.ex_indexz rfl rfl rfl rfl HJL.out Tryd.underlying22 (by kernel_rfl)) HS4 ?_
                simp only [Act.put, List.setIfInBounds_toArray, List.set_cons_zero, List.set_cons_succ]
                refine hk_val (i := 9) (oi := ⟨some 43, .fieldAddr _ _ _, _, _, _, _⟩) (.pointer (some ⟨b, off + j * 18 + 9, none⟩)) rfl (by kernel_rfl) (by kernel_rfl) (by kernel_rfl) (fun _ _ _ h => h) (by kernel_rfl) (fun _ _ => Hz.ex_fieldz (z := 9) rfl rfl (fun _ => by kernel_rfl)) HS4 ?_
                simp only [Act.put, List.setIfInBounds_toArray, List.set_cons_zero, List.set_cons_succ]
                refine hk_val (i := 10) (oi := ⟨some 44, .load _ _, _, _, _, _⟩) (.bool true) rfl (by kernel_rfl) (by kernel_rfl) (by kernel_rfl) (fun _ _ _ h => h) (by kernel_rfl) (fun y hy => ex_load rfl rfl (HBJ.out _ (BW.on HBX.out hy)) (by kernel_rfl)) HS4 ?_
                simp only [Act.put, List.setIfInBounds_toArray, List.set_cons_zero, List.set_cons_succ]
                refine hk_val (i := 11) (oi := ⟨some 45, .pick _ _ _, _, _, _, _⟩) (.bool true) rfl (by kernel_rfl) (by kernel_rfl) (by kernel_rfl) (fun _ _ _ h => h) (by kernel_rfl) (fun _ _ => rfl) HS4 ?_
                simp only [Act.put, List.setIfInBounds_toArray, List.set_cons_zero, List.set_cons_succ]
                refine hk_val (i := 12) (oi := ⟨some 46, .move _, _, _, _, _⟩) (.bool true) rfl (by kernel_rfl) (by kernel_rfl) (by kernel_rfl) (fun _ _ _ h => h) (by kernel_rfl) (fun _ _ => rfl) HS4 ?_
                simp only [Act.put, List.setIfInBounds_toArray, List.set_cons_zero, List.set_cons_succ]
                refine hk_val (i := 13) (oi := ⟨some 47, .move _, _, _, _, _⟩) (.slice (some ⟨b, off, none⟩) l.length cap) rfl (by kernel_rfl) (by kernel_rfl) (by kernel_rfl) (fun _ _ _ h => h) (by kernel_rfl) (fun _ _ => rfl) HS4 ?_
                simp only [Act.put, List.setIfInBounds_toArray, List.set_cons_zero, List.set_cons_succ]
                refine hk_val (i := 14) (oi := ⟨some 48, .move _, _, _, _, _⟩) (.int .i64 (i : Int)) rfl (by kernel_rfl) (by kernel_rfl) (by kernel_rfl) (fun _ _ _ h => h) (by kernel_rfl) (fun _ _ => rfl) HS4 ?_
                simp only [Act.put, List.setIfInBounds_toArray, List.set_cons_zero, List.set_cons_succ]
                refine hk_val (i := 15) (oi := ⟨some 49, .indexAddr _ _ _, _, _, _, _⟩) (.pointer (some ⟨b, off + i * 18, none⟩)) rfl (by kernel_rfl) (by kernel_rfl) (by kernel_rfl) (fun _ _ _ h => h) (by kernel_rfl) (fun _ _ => Hz.ex_indexz rfl rfl rfl rfl HIL.out Tryd.underlying22 (by kernel_rfl)) HS4 ?_
                simp only [Act.put, List.setIfInBounds_toArray, List.set_cons_zero, List.set_cons_succ]
                refine hk_val (i := 16) (oi := ⟨some 50, .load _ _, _, _, _, _⟩) (.agg (sltC (sAt l i))) rfl (by kernel_rfl) (by kernel_rfl) (by kernel_rfl) (fun _ _ _ h => h) (by kernel_rfl) (fun y hy => ex_slt (sAt l i) rfl rfl (HCS.out _ (BW.on HBX.out hy)) Tryd.underlying29 rfl (by kernel_rfl)) HS4 ?_
                simp only [Act.put, List.setIfInBounds_toArray, List.set_cons_zero, List.set_cons_succ]
                refine hk_val (i := 17) (oi := ⟨some 51, .move _, _, _, _, _⟩) (.slice (some ⟨b, off, none⟩) l.length cap) rfl (by kernel_rfl) (by kernel_rfl) (by kernel_rfl) (fun _ _ _ h => h) (by kernel_rfl) (fun _ _ => rfl) HS4 ?_
                simp only [Act.put, List.setIfInBounds_toArray, List.set_cons_zero, List.set_cons_succ]
                refine hk_val (i := 18) (oi := ⟨some 52, .move _, _, _, _, _⟩) (.int .i64 (j : Int)) rfl (by kernel_rfl) (by kernel_rfl) (by kernel_rfl) (fun _ _ _ h => h) (by kernel_rfl) (fun _ _ => rfl) HS4 ?_
                simp only [Act.put, List.setIfInBounds_toArray, List.set_cons_zero, List.set_cons_succ]
                refine hk_val (i := 19) (oi := ⟨some 53, .indexAddr _ _ _, _, _, _, _⟩) (.pointer (some ⟨b, off + j * 18, none⟩)) rfl (by kernel_rfl) (by kernel_rfl) (by kernel_rfl) (fun _ _ _ h => h) (by kernel_rfl) (fun _ _ => Hz.ex_indexz rfl rfl rfl rfl HJL.out Tryd.underlying22 (by kernel_rfl)) HS4 ?_
                simp only [Act.put, List.setIfInBounds_toArray, List.set_cons_zero, List.set_cons_succ]
                refine hk_val (i := 20) (oi := ⟨some 54, .load _ _, _, _, _, _⟩) (.agg (sltC (sAt l j))) rfl (by kernel_rfl) (by kernel_rfl) (by kernel_rfl) (fun _ _ _ h => h) (by kernel_rfl) (fun y hy => ex_slt (sAt l j) rfl rfl (HCJ.out _ (BW.on HBX.out hy)) Tryd.underlying29 rfl (by kernel_rfl)) HS4 ?_
                simp only [Act.put, List.setIfInBounds_toArray, List.set_cons_zero, List.set_cons_succ]
                refine hk_call (i := 21) (oi := ⟨some 55, .call _, _, _, _, _⟩) (by kernel_rfl) rfl (by kernel_rfl) (by first | rfl | kernel_rfl) (HOV.out _ HS4) ?_
                rintro e w5 ⟨rfl, hb⟩
                have HS5 := HS4.on hb
                refine ⟨_, rfl, HS5, ?_⟩
                simp only [Act.put, List.setIfInBounds_toArray, List.set_cons_zero, List.set_cons_succ]
                refine hk_val (i := 22) (oi := ⟨some 56, .pick _ _ _, _, _, _, _⟩) (.bool false) rfl (by kernel_rfl) (by kernel_rfl) (by kernel_rfl) (fun _ _ _ h => h) (by kernel_rfl) (fun _ _ => rfl) HS5 ?_
                simp only [Act.put, List.setIfInBounds_toArray, List.set_cons_zero, List.set_cons_succ]
                refine wpAnyH_done (by kernel_rfl) ?_ _
                go_wp2
                go_roundw
                case rel => exact ⟨j + 1, by omega, by omega, by first | rfl | go_num, BW.on HBX.out HS5, HN2.out⟩
                case measure => simp [intOf]; omega
              | true =>
                have HN2 : Hid (R = (j : Int)) := by show _ = _; rw [HN.out, if_pos ⟨h1, h2, h3⟩]
                rw [h3] at HOV
                clear h1 h2 h3 HN
                go_upto_region 6 with (fail)
                refine wp_region_held (S := BW wr) (by kernel_rfl) ?_
                change wpAnyH _ _ _ _ _ _ _ _ (World.drew _)
                have HS : BW wr wr.drew := Below.drew (Below.refl _ _)
                generalize wr.drew = wd at *
                refine hk_val (i := 0) (oi := ⟨some 34, .move _, _, _, _, _⟩) (.slice (some ⟨b, off, none⟩) l.length cap) rfl (by kernel_rfl) (by kernel_rfl) (by kernel_rfl) (fun _ _ _ h => h) (by kernel_rfl) (fun _ _ => rfl) HS ?_
                simp only [Act.put, List.setIfInBounds_toArray, List.set_cons_zero, List.set_cons_succ]
                refine hk_val (i := 1) (oi := ⟨some 35, .move _, _, _, _, _⟩) (.int .i64 (j : Int)) rfl (by kernel_rfl) (by kernel_rfl) (by kernel_rfl) (fun _ _ _ h => h) (by kernel_rfl) (fun _ _ => rfl) HS ?_
                simp only [Act.put, List.setIfInBounds_toArray, List.set_cons_zero, List.set_cons_succ]
                refine hk_val (i := 2) (oi := ⟨some 36, .indexAddr _ _ _, _, _, _, _⟩) (.pointer (some ⟨b, off + j * 18, none⟩)) rfl (by kernel_rfl) (by kernel_rfl) (by kernel_rfl) (fun _ _ _ h => h) (by kernel_rfl) (fun _ _ => Hz.ex_indexz rfl rfl rfl rfl HJL.out Tryd.underlying22 (by kernel_rfl)) HS ?_
                simp only [Act.put, List.setIfInBounds_toArray, List.set_cons_zero, List.set_cons_succ]
                refine hk_val (i := 3) (oi := ⟨some 37, .load _ _, _, _, _, _⟩) (.agg (sltC (sAt l j))) rfl (by kernel_rfl) (by kernel_rfl) (by kernel_rfl) (fun _ _ _ h => h) (by kernel_rfl) (fun y hy => ex_slt (sAt l j) rfl rfl (HCJ.out _ (BW.on HBX.out hy)) Tryd.underlying29 rfl (by kernel_rfl)) HS ?_
                simp only [Act.put, List.setIfInBounds_toArray, List.set_cons_zero, List.set_cons_succ]
                refine hk_call (i := 4) (oi := ⟨some 38, .call _, _, _, _, _⟩) (by kernel_rfl) rfl (by kernel_rfl) (by first | rfl | kernel_rfl) (HLJ.out _ HS) ?_
                rintro e w4 ⟨rfl, hb⟩
                have HS4 := HS.on hb
                refine ⟨_, rfl, HS4, ?_⟩
                simp only [Act.put, List.setIfInBounds_toArray, List.set_cons_zero, List.set_cons_succ]
                refine hk_val (i := 5) (oi := ⟨some 39, .move _, _, _, _, _⟩) (.bool true) rfl (by kernel_rfl) (by kernel_rfl) (by kernel_rfl) (fun _ _ _ h => h) (by kernel_rfl) (fun _ _ => rfl) HS4 ?_
                simp only [Act.put, List.setIfInBounds_toArray, List.set_cons_zero, List.set_cons_succ]
                refine hk_val (i := 6) (oi := ⟨some 40, .move _, _, _, _, _⟩) (.slice (some ⟨b, off, none⟩) l.length cap) rfl (by kernel_rfl) (by kernel_rfl) (by kernel_rfl) (fun _ _ _ h => h) (by kernel_rfl) (fun _ _ => rfl) HS4 ?_
                simp only [Act.put, List.setIfInBounds_toArray, List.set_cons_zero, List.set_cons_succ]
                refine hk_val (i := 7) (oi := ⟨some 41, .move _, _, _, _, _⟩) (.int .i64 (j : Int)) rfl (by kernel_rfl) (by kernel_rfl) (by kernel_rfl) (fun _ _ _ h => h) (by kernel_rfl) (fun _ _ => rfl) HS4 ?_
                simp only [Act.put, List.setIfInBounds_toArray, List.set_cons_zero, List.set_cons_succ]
                refine hk_val (i := 8) (oi := ⟨some 42, .indexAddr _ _ _, _, _, _, _⟩) (.pointer (some ⟨b, off + j * 18, none⟩)) rfl (by kernel_rfl) (by kernel_rfl) (by kernel_rfl) (fun _ _ _ h => h) (by kernel_rfl) (fun _ _ => Hz.ex_indexz rfl rfl rfl rfl HJL.out Tryd.underlying22 (by kernel_rfl)) HS4 ?_
                simp only [Act.put, List.setIfInBounds_toArray, List.set_cons_zero, List.set_cons_succ]
                refine hk_val (i := 9) (oi := ⟨some 43, .fieldAddr _ _ _, _, _, _, _⟩) (.pointer (some ⟨b, off + j * 18 + 9, none⟩)) rfl (by kernel_rfl) (by kernel_rfl) (by kernel_rfl) (fun _ _ _ h => h) (by kernel_rfl) (fun _ _ => Hz.ex_fieldz (z := 9) rfl rfl (fun _ => by kernel_rfl)) HS4 ?_
                simp only [Act.put, List.setIfInBounds_toArray, List.set_cons_zero, List.set_cons_succ]
                refine hk_val (i := 10) (oi := ⟨some 44, .load _ _, _, _, _, _⟩) (.bool true) rfl (by kernel_rfl) (by kernel_rfl) (by kernel_rfl) (fun _ _ _ h => h) (by kernel_rfl) (fun y hy => ex_load rfl rfl (HBJ.out _ (BW.on HBX.out hy)) (by kernel_rfl)) HS4 ?_
                simp only [Act.put, List.setIfInBounds_toArray, List.set_cons_zero, List.set_cons_succ]
                refine hk_val (i := 11) (oi := ⟨some 45, .pick _ _ _, _, _, _, _⟩) (.bool true) rfl (by kernel_rfl) (by kernel_rfl) (by kernel_rfl) (fun _ _ _ h => h) (by kernel_rfl) (fun _ _ => rfl) HS4 ?_
                simp only [Act.put, List.setIfInBounds_toArray, List.set_cons_zero, List.set_cons_succ]
                refine hk_val (i := 12) (oi := ⟨some 46, .move _, _, _, _, _⟩) (.bool true) rfl (by kernel_rfl) (by kernel_rfl) (by kernel_rfl) (fun _ _ _ h => h) (by kernel_rfl) (fun _ _ => rfl) HS4 ?_
                simp only [Act.put, List.setIfInBounds_toArray, List.set_cons_zero, List.set_cons_succ]
                refine hk_val (i := 13) (oi := ⟨some 47, .move _, _, _, _, _⟩) (.slice (some ⟨b, off, none⟩) l.length cap) rfl (by kernel_rfl) (by kernel_rfl) (by kernel_rfl) (fun _ _ _ h => h) (by kernel_rfl) (fun _ _ => rfl) HS4 ?_
                simp only [Act.put, List.setIfInBounds_toArray, List.set_cons_zero, List.set_cons_succ]
                refine hk_val (i := 14) (oi := ⟨some 48, .move _, _, _, _, _⟩) (.int .i64 (i : Int)) rfl (by kernel_rfl) (by kernel_rfl) (by kernel_rfl) (fun _ _ _ h => h) (by kernel_rfl) (fun _ _ => rfl) HS4 ?_
                simp only [Act.put, List.setIfInBounds_toArray, List.set_cons_zero, List.set_cons_succ]
                refine hk_val (i := 15) (oi := ⟨some 49, .indexAddr _ _ _, _, _, _, _⟩) (.pointer (some ⟨b, off + i * 18, none⟩)) rfl (by kernel_rfl) (by kernel_rfl) (by kernel_rfl) (fun _ _ _ h => h) (by kernel_rfl) (fun _ _ => Hz.ex_indexz rfl rfl rfl rfl HIL.out Tryd.underlying22 (by kernel_rfl)) HS4 ?_
                simp only [Act.put, List.setIfInBounds_toArray, List.set_cons_zero, List.set_cons_succ]
                refine hk_val (i := 16) (oi := ⟨some 50, .load _ _, _, _, _, _⟩) (.agg (sltC (sAt l i))) rfl (by kernel_rfl) (by kernel_rfl) (by kernel_rfl) (fun _ _ _ h => h) (by kernel_rfl) (fun y hy => ex_slt (sAt l i) rfl rfl (HCS.out _ (BW.on HBX.out hy)) Tryd.underlying29 rfl (by kernel_rfl)) HS4 ?_
                simp only [Act.put, List.setIfInBounds_toArray, List.set_cons_zero, List.set_cons_succ]
                refine hk_val (i := 17) (oi := ⟨some 51, .move _, _, _, _, _⟩) (.slice (some ⟨b, off, none⟩) l.length cap) rfl (by kernel_rfl) (by kernel_rfl) (by kernel_rfl) (fun _ _ _ h => h) (by kernel_rfl) (fun _ _ => rfl) HS4 ?_
                simp only [Act.put, List.setIfInBounds_toArray, List.set_cons_zero, List.set_cons_succ]
                refine hk_val (i := 18) (oi := ⟨some 52, .move _, _, _, _, _⟩) (.int .i64 (j : Int)) rfl (by kernel_rfl) (by kernel_rfl) (by kernel_rfl) (fun _ _ _ h => h) (by kernel_rfl) (fun _ _ => rfl) HS4 ?_
                simp only [Act.put, List.setIfInBounds_toArray, List.set_cons_zero, List.set_cons_succ]
                refine hk_val (i := 19) (oi := ⟨some 53, .indexAddr _ _ _, _, _, _, _⟩) (.pointer (some ⟨b, off + j * 18, none⟩)) rfl (by kernel_rfl) (by kernel_rfl) (by kernel_rfl) (fun _ _ _ h => h) (by kernel_rfl) (fun _ _ => Hz.ex_indexz rfl rfl rfl rfl HJL.out Tryd.underlying22 (by kernel_rfl)) HS4 ?_
                simp only [Act.put, List.setIfInBounds_toArray, List.set_cons_zero, List.set_cons_succ]
                refine hk_val (i := 20) (oi := ⟨some 54, .load _ _, _, _, _, _⟩) (.agg (sltC (sAt l j))) rfl (by kernel_rfl) (by kernel_rfl) (by kernel_rfl) (fun _ _ _ h => h) (by kernel_rfl) (fun y hy => ex_slt (sAt l j) rfl rfl (HCJ.out _ (BW.on HBX.out hy)) Tryd.underlying29 rfl (by kernel_rfl)) HS4 ?_
                simp only [Act.put, List.setIfInBounds_toArray, List.set_cons_zero, List.set_cons_succ]
                refine hk_call (i := 21) (oi := ⟨some 55, .call _, _, _, _, _⟩) (by kernel_rfl) rfl (by kernel_rfl) (by first | rfl | kernel_rfl) (HOV.out _ HS4) ?_
                rintro e w5 ⟨rfl, hb⟩
                have HS5 := HS4.on hb
                refine ⟨_, rfl, HS5, ?_⟩
                simp only [Act.put, List.setIfInBounds_toArray, List.set_cons_zero, List.set_cons_succ]
                refine hk_val (i := 22) (oi := ⟨some 56, .pick _ _ _, _, _, _, _⟩) (.bool true) rfl (by kernel_rfl) (by kernel_rfl) (by kernel_rfl) (fun _ _ _ h => h) (by kernel_rfl) (fun _ _ => rfl) HS5 ?_
                simp only [Act.put, List.setIfInBounds_toArray, List.set_cons_zero, List.set_cons_succ]
                refine wpAnyH_done (by kernel_rfl) ?_ _
                go_wp2
                go_ret
                exact ⟨by rw [HR.out, HN2.out]; rfl, BW.on HBX.out HS5⟩
        · obtain rfl : j = l.length := by omega
          have HN2 : Hid (R = -1) := by show _ = _; rw [HH.out.2, Nat.sub_self]; rfl
          go_wp2
          go_ret
          exact ⟨by rw [HR.out, HN2.out]; rfl, HH.out.1⟩
    | false =>
      rw [ha] at HAT
      have HE := Lib.hid (HE2.out hs ha)
      clear hs ha HE1 HE2 HLD HOO
      go_enter Tryd.func8, Tryd.ntmps8
      go_wp2_with (first
        | (go_at_call 10; refine HPL.out.mono ?_; rintro e1 w1 ⟨rfl, rfl⟩)
        | (with_reducible refine Hz.val_arm (o := ⟨some 14, .load _ _, _, _, _, _⟩) (by kernel_rfl) (ex_slt (sAt l i) rfl rfl HCW.out Tryd.underlying29 rfl (by kernel_rfl)) ?_)
        | (go_at_call 24; refine HST.out.mono ?_; rintro e2 w2 ⟨rfl, hb2⟩; have HB2 := Lib.hid hb2; have HC2 := Lib.hid (HCS.out _ hb2); clear hb2)
        | (with_reducible refine Hz.val_arm (o := ⟨some 21, .load _ _, _, _, _, _⟩) (by kernel_rfl) (ex_slt (sAt l i) rfl rfl HC2.out Tryd.underlying29 rfl (by kernel_rfl)) ?_)
        | (go_at_call 14; refine (HAT.out _ HB2.out).mono ?_; rintro e3 w3 ⟨rfl, hb3⟩; have HB3 := Lib.hid (BW.on HB2.out hb3); clear hb3))
      go_ret
      exact ⟨by rw [HE.out]; rfl, HB3.out⟩
theorem clash_c {l : List Slt} {A : Option Addr} {w : World} (h : FL l A w) (cap : Nat) (i : Int) :
    Calls Tryd.prog 8 #[.slice A l.length cap, .int .i64 i] w fun r w' => r = .returned (.int .i64 (claS l i)) ∧ BW w w' := by
  by_cases hp : 0 ≤ i ∧ i < l.length
  · obtain ⟨j, rfl⟩ : ∃ j : Nat, i = (j : Int) := ⟨i.toNat, by omega⟩
    exact clash_at h cap j (by omega)
  · exact clash_no h cap i hp
end Go.Proofs.YtoaonoflekcccaaDoor
