/- Package names: Retire, Undo. -/
import Derived.Test.YtoahejjeihmiiaaNx
import Derived.Test.YtoahejjeihmiiaaVe
set_option maxRecDepth 100000
set_option linter.unusedVariables false
namespace Go.Proofs.Ytoahejjeihmiiaa
open Go.RowKit

theorem NAt.row_cell {s : Nst} {p : Npl} {x : World} (h : NAt s p x) {b off cap : Nat} (hv : p.vl = .slice (some ⟨b, off, none⟩) s.l.length cap) {j : Nat} (hj : j < s.l.length) : x.cell? ⟨b, off + j * 2, none⟩ = some (.int .i64 (s.l[j].1 : Int)) ∧ x.cell? ⟨b, off + j * 2 + 1, none⟩ = some (.int .i64 (s.l[j].2 : Int)) := by
  obtain ⟨A, c, hv2, _, _, h3⟩ := h.reads
  obtain ⟨b', off', e, _, _, hc⟩ := h3 (by omega)
  rw [hv, e] at hv2
  cases hv2
  obtain ⟨a0, a1⟩ := hc j hj
  rw [clAt_eq hj] at a0 a1
  exact ⟨a0, a1⟩
theorem NAt.head_cell {s : Nst} {p : Npl} {x : World} (h : NAt s p x) : x.cell? ⟨p.g, 120, none⟩ = some p.vl := (h.head.cell 120).trans (nCells_l s p.vl)
theorem NAt.some_row {s : Nst} {p : Npl} {w : World} (h : NAt s p w) (hl : 0 < s.l.length) : ∃ b off cap, p.vl = .slice (some ⟨b, off, none⟩) s.l.length cap ∧ s.l.length ≤ cap ∧ b ≠ p.g := by
  obtain ⟨b, off, cap, h1, h2, _, _⟩ := h.row.begins hl
  exact ⟨b, off, cap, h1, h2, fun e => h.apart (by rw [h1, ← e]; rfl)⟩
theorem NAt.claims {s : Nst} {p : Npl} {g : Nat} (hg : p.g = g) (x : World) (hx : NAt s p x) : Calls Try.prog 18 #[.pointer (some ⟨g, 0, none⟩)] x fun e x' => e = .returned (.int .i64 (s.l.length : Int)) ∧ x = x' := by
  rw [← hg]
  exact claims_c hx
theorem grown_refl (w : World) (r : Option Nat) : w.grownBy w r := ⟨rfl, rfl, rfl, Nat.le_refl _, fun _ _ _ => rfl⟩
theorem Blk.fr7 {cs : Array Value} {t : TypeId} {g b : Nat} {w w' : World} (h : Blk cs t b w) (k : Fr [g] w w') (hne : g ≠ b) : Blk cs t b w' := k.blk h (fun hm => hne (List.mem_singleton.1 hm).symm)
theorem retire15_nil (w : World) : Calls Try.prog 14 #[.pointer none] w fun e w' => e = .returned (.bool false) ∧ BW w w' := by
  go_enter Try.func14, Try.ntmps14
  go_wp2_with (fail)
  go_quiet (first | (go_at_call 18; refine Calls.quiet_of_same ((claims_nil _).mono fun _ _ h => ⟨h.1, h.2.symm⟩)))
  go_wp2
  go_ret
  exact ⟨rfl, below_drewN' (Below.refl _ _) _⟩
set_option maxHeartbeats 4000000 in
theorem retire15_c {s : Nst} {p : Npl} {w : World} (h : NAt s p w) (ok : NOk s) : Calls Try.prog 14 #[.pointer (some ⟨p.g, 0, none⟩)] w fun e w' => e = .returned (.bool (retOk s)) ∧ UpT (NAt (retN s)) p w w' := by
  obtain ⟨g, hg⟩ : ∃ g, p.g = g := ⟨_, rfl⟩
  have HCL := Lib.hid (fun x (hx : NAt s p x) => NAt.claims hg x hx)
  have HUP := Lib.hid (fun t x (hx : BW w x) (y : World) (hu : UpT (NAt t) p x y) => UpT.ahead hx hu)
  have HS0 : NAt s p w.drew := Two.on h (Below.drew (Below.refl _ _))
  have HBD : Hid (BW w w.drew) := Below.drew (Below.refl _ _)
  have HR := Lib.hid (show retN s = _ from rfl)
  cases hl : s.l with
  | nil =>
    have e1 : retOk s = false := by unfold retOk; rw [hl]
    have e2 : retN s = s := by unfold retN; rw [hl]
    have hn : (s.l.length : Int) = 0 := by rw [hl]; rfl
    rw [e1, e2, hg]
    simp only [hn] at HCL
    clear h HR e1 e2 hn hl
    go_enter Try.func14, Try.ntmps14
    go_wp2_with (fail)
    refine wp_region_held (S := NAt s p) (by kernel_rfl) ?_
    change wpAnyH _ _ _ _ _ _ _ _ (World.drew _)
    have HS := HS0
    clear HS0
    generalize World.drew w = w3 at *
    refine hk_val (i := 0) (oi := ⟨some 4, .move _, _, _, _, _⟩) (.pointer (some ⟨g, 0, none⟩)) rfl (by kernel_rfl) (by kernel_rfl) (by kernel_rfl) (fun _ _ _ h => h) (by kernel_rfl) (fun _ _ => rfl) HS ?_
    simp only [Act.put, List.setIfInBounds_toArray, List.set_cons_zero, List.set_cons_succ]
    refine hk_call (i := 1) (oi := ⟨some 5, .call _, _, _, _, _⟩) (by kernel_rfl) rfl (by kernel_rfl) (by first | rfl | kernel_rfl) (HCL.out _ HS) ?_
    rintro e w4 ⟨rfl, rfl⟩
    refine ⟨_, rfl, HS, ?_⟩
    simp only [Act.put, List.setIfInBounds_toArray, List.set_cons_zero, List.set_cons_succ]
    refine hk_val (i := 2) (oi := ⟨some 6, .binOp _ _ _ _ _, _, _, _, _⟩) (.bool true) rfl (by kernel_rfl) (by kernel_rfl) (by kernel_rfl) (fun _ _ _ h => h) (by kernel_rfl) (fun _ _ => by kernel_rfl) HS ?_
    simp only [Act.put, List.setIfInBounds_toArray, List.set_cons_zero, List.set_cons_succ]
    refine hk_val (i := 3) (oi := ⟨some 7, .move _, _, _, _, _⟩) (.bool true) rfl (by kernel_rfl) (by kernel_rfl) (by kernel_rfl) (fun _ _ _ h => h) (by kernel_rfl) (fun _ _ => rfl) HS ?_
    simp only [Act.put, List.setIfInBounds_toArray, List.set_cons_zero, List.set_cons_succ]
    refine hk_skip (i := 4) (oi := ⟨some 8, .move _, _, _, _, _⟩) rfl (by kernel_rfl) (by kernel_rfl) (by kernel_rfl) (fun _ _ _ h => h) (by kernel_rfl) HS ?_
    simp only [Act.put, List.setIfInBounds_toArray, List.set_cons_zero, List.set_cons_succ]
    refine hk_skip (i := 5) (oi := ⟨some 9, .move _, _, _, _, _⟩) rfl (by kernel_rfl) (by kernel_rfl) (by kernel_rfl) (fun _ _ _ h => h) (by kernel_rfl) HS ?_
    simp only [Act.put, List.setIfInBounds_toArray, List.set_cons_zero, List.set_cons_succ]
    refine hk_skip (i := 6) (oi := ⟨some 10, .nilCheck _, _, _, _, _⟩) rfl (by kernel_rfl) (by kernel_rfl) (by kernel_rfl) (fun _ _ _ h => h) (by kernel_rfl) HS ?_
    simp only [Act.put, List.setIfInBounds_toArray, List.set_cons_zero, List.set_cons_succ]
    refine hk_skip (i := 7) (oi := ⟨some 11, .fieldAddr _ _ _, _, _, _, _⟩) rfl (by kernel_rfl) (by kernel_rfl) (by kernel_rfl) (fun _ _ _ h => h) (by kernel_rfl) HS ?_
    simp only [Act.put, List.setIfInBounds_toArray, List.set_cons_zero, List.set_cons_succ]
    refine hk_skip (i := 8) (oi := ⟨some 12, .load _ _, _, _, _, _⟩) rfl (by kernel_rfl) (by kernel_rfl) (by kernel_rfl) (fun _ _ _ h => h) (by kernel_rfl) HS ?_
    simp only [Act.put, List.setIfInBounds_toArray, List.set_cons_zero, List.set_cons_succ]
    refine hk_skip (i := 9) (oi := ⟨some 13, .indexAddr _ _ _, _, _, _, _⟩) rfl (by kernel_rfl) (by kernel_rfl) (by kernel_rfl) (fun _ _ _ h => h) (by kernel_rfl) HS ?_
    simp only [Act.put, List.setIfInBounds_toArray, List.set_cons_zero, List.set_cons_succ]
    refine hk_skip (i := 10) (oi := ⟨some 14, .fieldAddr _ _ _, _, _, _, _⟩) rfl (by kernel_rfl) (by kernel_rfl) (by kernel_rfl) (fun _ _ _ h => h) (by kernel_rfl) HS ?_
    simp only [Act.put, List.setIfInBounds_toArray, List.set_cons_zero, List.set_cons_succ]
    refine hk_skip (i := 11) (oi := ⟨some 15, .load _ _, _, _, _, _⟩) rfl (by kernel_rfl) (by kernel_rfl) (by kernel_rfl) (fun _ _ _ h => h) (by kernel_rfl) HS ?_
    simp only [Act.put, List.setIfInBounds_toArray, List.set_cons_zero, List.set_cons_succ]
    refine hk_skip (i := 12) (oi := ⟨some 16, .nilCheck _, _, _, _, _⟩) rfl (by kernel_rfl) (by kernel_rfl) (by kernel_rfl) (fun _ _ _ h => h) (by kernel_rfl) HS ?_
    simp only [Act.put, List.setIfInBounds_toArray, List.set_cons_zero, List.set_cons_succ]
    refine hk_skip (i := 13) (oi := ⟨some 17, .fieldAddr _ _ _, _, _, _, _⟩) rfl (by kernel_rfl) (by kernel_rfl) (by kernel_rfl) (fun _ _ _ h => h) (by kernel_rfl) HS ?_
    simp only [Act.put, List.setIfInBounds_toArray, List.set_cons_zero, List.set_cons_succ]
    refine hk_skip (i := 14) (oi := ⟨some 18, .indexAddr _ _ _, _, _, _, _⟩) rfl (by kernel_rfl) (by kernel_rfl) (by kernel_rfl) (fun _ _ _ h => h) (by kernel_rfl) HS ?_
    simp only [Act.put, List.setIfInBounds_toArray, List.set_cons_zero, List.set_cons_succ]
    refine hk_skip (i := 15) (oi := ⟨some 19, .fieldAddr _ _ _, _, _, _, _⟩) rfl (by kernel_rfl) (by kernel_rfl) (by kernel_rfl) (fun _ _ _ h => h) (by kernel_rfl) HS ?_
    simp only [Act.put, List.setIfInBounds_toArray, List.set_cons_zero, List.set_cons_succ]
    refine hk_skip (i := 16) (oi := ⟨some 20, .load _ _, _, _, _, _⟩) rfl (by kernel_rfl) (by kernel_rfl) (by kernel_rfl) (fun _ _ _ h => h) (by kernel_rfl) HS ?_
    simp only [Act.put, List.setIfInBounds_toArray, List.set_cons_zero, List.set_cons_succ]
    refine hk_skip (i := 17) (oi := ⟨some 21, .unOp _ _ _, _, _, _, _⟩) rfl (by kernel_rfl) (by kernel_rfl) (by kernel_rfl) (fun _ _ _ h => h) (by kernel_rfl) HS ?_
    simp only [Act.put, List.setIfInBounds_toArray, List.set_cons_zero, List.set_cons_succ]
    refine hk_val (i := 18) (oi := ⟨some 22, .pick _ _ _, _, _, _, _⟩) (.bool true) rfl (by kernel_rfl) (by kernel_rfl) (by kernel_rfl) (fun _ _ _ h => h) (by kernel_rfl) (fun _ _ => rfl) HS ?_
    simp only [Act.put, List.setIfInBounds_toArray, List.set_cons_zero, List.set_cons_succ]
    refine wpAnyH_done (by kernel_rfl) ?_ _
    go_wp2
    go_ret
    exact ⟨rfl, HUP.out _ _ HBD.out _ (UpT.same HS (Fr.refl _ _))⟩
  | cons k l =>
    have hll : s.l.length = l.length + 1 := by rw [hl]; rfl
    obtain ⟨b, off, cap, hv, hcap, hbg⟩ := h.some_row (by omega)
    obtain ⟨k1, k2⟩ := k
    have hk0 : s.l[0]'(by omega) = (k1, k2) := by simp [hl]
    obtain ⟨hkl1, hkl2, hkl3⟩ := ok.cl (k1, k2) (by rw [hl]; exact List.mem_cons_self)
    have hsk := ok.sl k1 hkl2
    have HC := Lib.hid (fun x (hx : NAt s p x) => hx.row_cell hv (j := 0) (by omega))
    simp only [hk0, Nat.zero_mul, Nat.add_zero] at HC
    have HQ := Lib.hid (fun x (hx : NAt s p x) => (hg ▸ hv ▸ hx.head_cell : x.cell? ⟨g, 120, none⟩ = some (.slice (some ⟨b, off, none⟩) s.l.length cap)))
    have HY := Lib.hid (fun x (hx : NAt s p x) => (hg ▸ (hx.head.cell (2 * k2 + 1)).trans (nCells_y s p.vl hkl3) : x.cell? ⟨g, 2 * k2 + 1, none⟩ = some (.bool (s.y k2))))
    rw [hll] at HQ
    have HCL2 := Lib.hid (fun x (hx : NAt s p x) => (hll ▸ HCL.out x hx : Calls Try.prog 18 #[.pointer (some ⟨g, 0, none⟩)] x fun e x' => e = .returned (.int .i64 ((l.length + 1 : Nat) : Int)) ∧ x = x'))
    have e1 : retOk s = s.y k2 := by unfold retOk; rw [hl]
    have HE2 : Hid (retN s = if s.y k2 = true then retK s (k1, k2) l else s) := by show _ = _; unfold retN; rw [hl]
    rw [e1, hg]
    have hneI : ¬ ((l.length + 1 : Nat) : Int) = 0 := by omega
    have hsk : s.s k1 < 44 := hsk
    have HL := Lib.hid hl
    have HCAP : l.length + 1 ≤ cap := by omega
    clear HR e1 hl HCL hcap
    go_enter Try.func14, Try.ntmps14
    go_wp2_with (fail)
    refine wp_region_held (S := NAt s p) (by kernel_rfl) ?_
    change wpAnyH _ _ _ _ _ _ _ _ (World.drew _)
    have HS := HS0
    clear HS0
    generalize hdr : World.drew w = w3 at *
    clear hdr
    cases hy : s.y k2 with
    | false =>
      have HE3 := Lib.hid HE2.out
      rw [hy] at HY HE3
      simp only [Bool.false_eq_true, if_false] at HE3
      refine hk_val (i := 0) (oi := ⟨some 4, .move _, _, _, _, _⟩) (.pointer (some ⟨g, 0, none⟩)) rfl (by kernel_rfl) (by kernel_rfl) (by kernel_rfl) (fun _ _ _ h => h) (by kernel_rfl) (fun _ _ => rfl) HS ?_
      simp only [Act.put, List.setIfInBounds_toArray, List.set_cons_zero, List.set_cons_succ]
      refine hk_call (i := 1) (oi := ⟨some 5, .call _, _, _, _, _⟩) (by kernel_rfl) rfl (by kernel_rfl) (by first | rfl | kernel_rfl) (HCL2.out _ HS) ?_
      rintro e w4 ⟨rfl, rfl⟩
      refine ⟨_, rfl, HS, ?_⟩
      simp only [Act.put, List.setIfInBounds_toArray, List.set_cons_zero, List.set_cons_succ]
      refine hk_val (i := 2) (oi := ⟨some 6, .binOp _ _ _ _ _, _, _, _, _⟩) (.bool false) rfl (by kernel_rfl) (by kernel_rfl) (by kernel_rfl) (fun _ _ _ h => h) (by kernel_rfl) (fun _ _ => Hz.ex_eqK rfl rfl rfl (decide_eq_false hneI)) HS ?_
      simp only [Act.put, List.setIfInBounds_toArray, List.set_cons_zero, List.set_cons_succ]
      refine hk_val (i := 3) (oi := ⟨some 7, .move _, _, _, _, _⟩) (.bool false) rfl (by kernel_rfl) (by kernel_rfl) (by kernel_rfl) (fun _ _ _ h => h) (by kernel_rfl) (fun _ _ => rfl) HS ?_
      simp only [Act.put, List.setIfInBounds_toArray, List.set_cons_zero, List.set_cons_succ]
      refine hk_val (i := 4) (oi := ⟨some 8, .move _, _, _, _, _⟩) (.pointer (some ⟨g, 0, none⟩)) rfl (by kernel_rfl) (by kernel_rfl) (by kernel_rfl) (fun _ _ _ h => h) (by kernel_rfl) (fun _ _ => rfl) HS ?_
      simp only [Act.put, List.setIfInBounds_toArray, List.set_cons_zero, List.set_cons_succ]
      refine hk_val (i := 5) (oi := ⟨some 9, .move _, _, _, _, _⟩) (.pointer (some ⟨g, 0, none⟩)) rfl (by kernel_rfl) (by kernel_rfl) (by kernel_rfl) (fun _ _ _ h => h) (by kernel_rfl) (fun _ _ => rfl) HS ?_
      simp only [Act.put, List.setIfInBounds_toArray, List.set_cons_zero, List.set_cons_succ]
      refine hk_val (i := 6) (oi := ⟨some 10, .nilCheck _, _, _, _, _⟩) (.pointer (some ⟨g, 0, none⟩)) rfl (by kernel_rfl) (by kernel_rfl) (by kernel_rfl) (fun _ _ _ h => h) (by kernel_rfl) (fun _ _ => rfl) HS ?_
      simp only [Act.put, List.setIfInBounds_toArray, List.set_cons_zero, List.set_cons_succ]
      refine hk_val (i := 7) (oi := ⟨some 11, .fieldAddr _ _ _, _, _, _, _⟩) (.pointer (some ⟨g, 120, none⟩)) rfl (by kernel_rfl) (by kernel_rfl) (by kernel_rfl) (fun _ _ _ h => h) (by kernel_rfl) (fun _ _ => by kernel_rfl) HS ?_
      simp only [Act.put, List.setIfInBounds_toArray, List.set_cons_zero, List.set_cons_succ]
      refine hk_val (i := 8) (oi := ⟨some 12, .load _ _, _, _, _, _⟩) (.slice (some ⟨b, off, none⟩) (l.length + 1) cap) rfl (by kernel_rfl) (by kernel_rfl) (by kernel_rfl) (fun _ _ _ h => h) (by kernel_rfl) (fun x hx => ex_load rfl rfl (HQ.out x hx) (by kernel_rfl)) HS ?_
      simp only [Act.put, List.setIfInBounds_toArray, List.set_cons_zero, List.set_cons_succ]
      refine hk_val (i := 9) (oi := ⟨some 13, .indexAddr _ _ _, _, _, _, _⟩) (.pointer (some ⟨b, off, none⟩)) rfl (by kernel_rfl) (by kernel_rfl) (by kernel_rfl) (fun _ _ _ h => h) (by kernel_rfl) (fun _ _ => Hz.ex_indexp (j := 0) (z := 2) rfl rfl rfl rfl (by omega) Try.underlying56 (by kernel_rfl) (by omega)) HS ?_
      simp only [Act.put, List.setIfInBounds_toArray, List.set_cons_zero, List.set_cons_succ]
      refine hk_val (i := 10) (oi := ⟨some 14, .fieldAddr _ _ _, _, _, _, _⟩) (.pointer (some ⟨b, off + 1, none⟩)) rfl (by kernel_rfl) (by kernel_rfl) (by kernel_rfl) (fun _ _ _ h => h) (by kernel_rfl) (fun _ _ => by kernel_rfl) HS ?_
      simp only [Act.put, List.setIfInBounds_toArray, List.set_cons_zero, List.set_cons_succ]
      refine hk_val (i := 11) (oi := ⟨some 15, .load _ _, _, _, _, _⟩) (.int .i64 (k2 : Int)) rfl (by kernel_rfl) (by kernel_rfl) (by kernel_rfl) (fun _ _ _ h => h) (by kernel_rfl) (fun x hx => ex_load rfl rfl (HC.out x hx).2 (by kernel_rfl)) HS ?_
      simp only [Act.put, List.setIfInBounds_toArray, List.set_cons_zero, List.set_cons_succ]
      refine hk_val (i := 12) (oi := ⟨some 16, .nilCheck _, _, _, _, _⟩) (.pointer (some ⟨g, 0, none⟩)) rfl (by kernel_rfl) (by kernel_rfl) (by kernel_rfl) (fun _ _ _ h => h) (by kernel_rfl) (fun _ _ => rfl) HS ?_
      simp only [Act.put, List.setIfInBounds_toArray, List.set_cons_zero, List.set_cons_succ]
      refine hk_val (i := 13) (oi := ⟨some 17, .fieldAddr _ _ _, _, _, _, _⟩) (.pointer (some ⟨g, 0, none⟩)) rfl (by kernel_rfl) (by kernel_rfl) (by kernel_rfl) (fun _ _ _ h => h) (by kernel_rfl) (fun _ _ => by kernel_rfl) HS ?_
      simp only [Act.put, List.setIfInBounds_toArray, List.set_cons_zero, List.set_cons_succ]
      refine hk_val (i := 14) (oi := ⟨some 18, .indexAddr _ _ _, _, _, _, _⟩) (.pointer (some ⟨g, 2 * k2, none⟩)) rfl (by kernel_rfl) (by kernel_rfl) (by kernel_rfl) (fun _ _ _ h => h) (by kernel_rfl) (fun _ _ => Hz.ex_indexA (z := 2) rfl rfl rfl rfl hkl3 Try.underlying55 (by kernel_rfl) (by omega)) HS ?_
      simp only [Act.put, List.setIfInBounds_toArray, List.set_cons_zero, List.set_cons_succ]
      refine hk_val (i := 15) (oi := ⟨some 19, .fieldAddr _ _ _, _, _, _, _⟩) (.pointer (some ⟨g, 2 * k2 + 1, none⟩)) rfl (by kernel_rfl) (by kernel_rfl) (by kernel_rfl) (fun _ _ _ h => h) (by kernel_rfl) (fun _ _ => by kernel_rfl) HS ?_
      simp only [Act.put, List.setIfInBounds_toArray, List.set_cons_zero, List.set_cons_succ]
      refine hk_val (i := 16) (oi := ⟨some 20, .load _ _, _, _, _, _⟩) (.bool false) rfl (by kernel_rfl) (by kernel_rfl) (by kernel_rfl) (fun _ _ _ h => h) (by kernel_rfl) (fun x hx => ex_load rfl rfl (HY.out x hx) (by kernel_rfl)) HS ?_
      simp only [Act.put, List.setIfInBounds_toArray, List.set_cons_zero, List.set_cons_succ]
      refine hk_val (i := 17) (oi := ⟨some 21, .unOp _ _ _, _, _, _, _⟩) (.bool true) rfl (by kernel_rfl) (by kernel_rfl) (by kernel_rfl) (fun _ _ _ h => h) (by kernel_rfl) (fun _ _ => rfl) HS ?_
      simp only [Act.put, List.setIfInBounds_toArray, List.set_cons_zero, List.set_cons_succ]
      refine hk_val (i := 18) (oi := ⟨some 22, .pick _ _ _, _, _, _, _⟩) (.bool true) rfl (by kernel_rfl) (by kernel_rfl) (by kernel_rfl) (fun _ _ _ h => h) (by kernel_rfl) (fun _ _ => rfl) HS ?_
      simp only [Act.put, List.setIfInBounds_toArray, List.set_cons_zero, List.set_cons_succ]
      refine wpAnyH_done (by kernel_rfl) ?_ _
      go_wp2
      go_ret
      rw [HE3.out, hy]
      exact ⟨rfl, HUP.out _ _ HBD.out _ (UpT.same HS (Fr.refl _ _))⟩
    | true =>
      have HE3 := Lib.hid HE2.out
      rw [hy] at HY HE3
      simp only [if_true] at HE3
      refine hk_val (i := 0) (oi := ⟨some 4, .move _, _, _, _, _⟩) (.pointer (some ⟨g, 0, none⟩)) rfl (by kernel_rfl) (by kernel_rfl) (by kernel_rfl) (fun _ _ _ h => h) (by kernel_rfl) (fun _ _ => rfl) HS ?_
      simp only [Act.put, List.setIfInBounds_toArray, List.set_cons_zero, List.set_cons_succ]
      refine hk_call (i := 1) (oi := ⟨some 5, .call _, _, _, _, _⟩) (by kernel_rfl) rfl (by kernel_rfl) (by first | rfl | kernel_rfl) (HCL2.out _ HS) ?_
      rintro e w4 ⟨rfl, rfl⟩
      refine ⟨_, rfl, HS, ?_⟩
      simp only [Act.put, List.setIfInBounds_toArray, List.set_cons_zero, List.set_cons_succ]
      refine hk_val (i := 2) (oi := ⟨some 6, .binOp _ _ _ _ _, _, _, _, _⟩) (.bool false) rfl (by kernel_rfl) (by kernel_rfl) (by kernel_rfl) (fun _ _ _ h => h) (by kernel_rfl) (fun _ _ => Hz.ex_eqK rfl rfl rfl (decide_eq_false hneI)) HS ?_
      simp only [Act.put, List.setIfInBounds_toArray, List.set_cons_zero, List.set_cons_succ]
      refine hk_val (i := 3) (oi := ⟨some 7, .move _, _, _, _, _⟩) (.bool false) rfl (by kernel_rfl) (by kernel_rfl) (by kernel_rfl) (fun _ _ _ h => h) (by kernel_rfl) (fun _ _ => rfl) HS ?_
      simp only [Act.put, List.setIfInBounds_toArray, List.set_cons_zero, List.set_cons_succ]
      refine hk_val (i := 4) (oi := ⟨some 8, .move _, _, _, _, _⟩) (.pointer (some ⟨g, 0, none⟩)) rfl (by kernel_rfl) (by kernel_rfl) (by kernel_rfl) (fun _ _ _ h => h) (by kernel_rfl) (fun _ _ => rfl) HS ?_
      simp only [Act.put, List.setIfInBounds_toArray, List.set_cons_zero, List.set_cons_succ]
      refine hk_val (i := 5) (oi := ⟨some 9, .move _, _, _, _, _⟩) (.pointer (some ⟨g, 0, none⟩)) rfl (by kernel_rfl) (by kernel_rfl) (by kernel_rfl) (fun _ _ _ h => h) (by kernel_rfl) (fun _ _ => rfl) HS ?_
      simp only [Act.put, List.setIfInBounds_toArray, List.set_cons_zero, List.set_cons_succ]
      refine hk_val (i := 6) (oi := ⟨some 10, .nilCheck _, _, _, _, _⟩) (.pointer (some ⟨g, 0, none⟩)) rfl (by kernel_rfl) (by kernel_rfl) (by kernel_rfl) (fun _ _ _ h => h) (by kernel_rfl) (fun _ _ => rfl) HS ?_
      simp only [Act.put, List.setIfInBounds_toArray, List.set_cons_zero, List.set_cons_succ]
      refine hk_val (i := 7) (oi := ⟨some 11, .fieldAddr _ _ _, _, _, _, _⟩) (.pointer (some ⟨g, 120, none⟩)) rfl (by kernel_rfl) (by kernel_rfl) (by kernel_rfl) (fun _ _ _ h => h) (by kernel_rfl) (fun _ _ => by kernel_rfl) HS ?_
      simp only [Act.put, List.setIfInBounds_toArray, List.set_cons_zero, List.set_cons_succ]
      refine hk_val (i := 8) (oi := ⟨some 12, .load _ _, _, _, _, _⟩) (.slice (some ⟨b, off, none⟩) (l.length + 1) cap) rfl (by kernel_rfl) (by kernel_rfl) (by kernel_rfl) (fun _ _ _ h => h) (by kernel_rfl) (fun x hx => ex_load rfl rfl (HQ.out x hx) (by kernel_rfl)) HS ?_
      simp only [Act.put, List.setIfInBounds_toArray, List.set_cons_zero, List.set_cons_succ]
      refine hk_val (i := 9) (oi := ⟨some 13, .indexAddr _ _ _, _, _, _, _⟩) (.pointer (some ⟨b, off, none⟩)) rfl (by kernel_rfl) (by kernel_rfl) (by kernel_rfl) (fun _ _ _ h => h) (by kernel_rfl) (fun _ _ => Hz.ex_indexp (j := 0) (z := 2) rfl rfl rfl rfl (by omega) Try.underlying56 (by kernel_rfl) (by omega)) HS ?_
      simp only [Act.put, List.setIfInBounds_toArray, List.set_cons_zero, List.set_cons_succ]
      refine hk_val (i := 10) (oi := ⟨some 14, .fieldAddr _ _ _, _, _, _, _⟩) (.pointer (some ⟨b, off + 1, none⟩)) rfl (by kernel_rfl) (by kernel_rfl) (by kernel_rfl) (fun _ _ _ h => h) (by kernel_rfl) (fun _ _ => by kernel_rfl) HS ?_
      simp only [Act.put, List.setIfInBounds_toArray, List.set_cons_zero, List.set_cons_succ]
      refine hk_val (i := 11) (oi := ⟨some 15, .load _ _, _, _, _, _⟩) (.int .i64 (k2 : Int)) rfl (by kernel_rfl) (by kernel_rfl) (by kernel_rfl) (fun _ _ _ h => h) (by kernel_rfl) (fun x hx => ex_load rfl rfl (HC.out x hx).2 (by kernel_rfl)) HS ?_
      simp only [Act.put, List.setIfInBounds_toArray, List.set_cons_zero, List.set_cons_succ]
      refine hk_val (i := 12) (oi := ⟨some 16, .nilCheck _, _, _, _, _⟩) (.pointer (some ⟨g, 0, none⟩)) rfl (by kernel_rfl) (by kernel_rfl) (by kernel_rfl) (fun _ _ _ h => h) (by kernel_rfl) (fun _ _ => rfl) HS ?_
      simp only [Act.put, List.setIfInBounds_toArray, List.set_cons_zero, List.set_cons_succ]
      refine hk_val (i := 13) (oi := ⟨some 17, .fieldAddr _ _ _, _, _, _, _⟩) (.pointer (some ⟨g, 0, none⟩)) rfl (by kernel_rfl) (by kernel_rfl) (by kernel_rfl) (fun _ _ _ h => h) (by kernel_rfl) (fun _ _ => by kernel_rfl) HS ?_
      simp only [Act.put, List.setIfInBounds_toArray, List.set_cons_zero, List.set_cons_succ]
      refine hk_val (i := 14) (oi := ⟨some 18, .indexAddr _ _ _, _, _, _, _⟩) (.pointer (some ⟨g, 2 * k2, none⟩)) rfl (by kernel_rfl) (by kernel_rfl) (by kernel_rfl) (fun _ _ _ h => h) (by kernel_rfl) (fun _ _ => Hz.ex_indexA (z := 2) rfl rfl rfl rfl hkl3 Try.underlying55 (by kernel_rfl) (by omega)) HS ?_
      simp only [Act.put, List.setIfInBounds_toArray, List.set_cons_zero, List.set_cons_succ]
      refine hk_val (i := 15) (oi := ⟨some 19, .fieldAddr _ _ _, _, _, _, _⟩) (.pointer (some ⟨g, 2 * k2 + 1, none⟩)) rfl (by kernel_rfl) (by kernel_rfl) (by kernel_rfl) (fun _ _ _ h => h) (by kernel_rfl) (fun _ _ => by kernel_rfl) HS ?_
      simp only [Act.put, List.setIfInBounds_toArray, List.set_cons_zero, List.set_cons_succ]
      refine hk_val (i := 16) (oi := ⟨some 20, .load _ _, _, _, _, _⟩) (.bool true) rfl (by kernel_rfl) (by kernel_rfl) (by kernel_rfl) (fun _ _ _ h => h) (by kernel_rfl) (fun x hx => ex_load rfl rfl (HY.out x hx) (by kernel_rfl)) HS ?_
      simp only [Act.put, List.setIfInBounds_toArray, List.set_cons_zero, List.set_cons_succ]
      refine hk_val (i := 17) (oi := ⟨some 21, .unOp _ _ _, _, _, _, _⟩) (.bool false) rfl (by kernel_rfl) (by kernel_rfl) (by kernel_rfl) (fun _ _ _ h => h) (by kernel_rfl) (fun _ _ => rfl) HS ?_
      simp only [Act.put, List.setIfInBounds_toArray, List.set_cons_zero, List.set_cons_succ]
      refine hk_val (i := 18) (oi := ⟨some 22, .pick _ _ _, _, _, _, _⟩) (.bool false) rfl (by kernel_rfl) (by kernel_rfl) (by kernel_rfl) (fun _ _ _ h => h) (by kernel_rfl) (fun _ _ => rfl) HS ?_
      simp only [Act.put, List.setIfInBounds_toArray, List.set_cons_zero, List.set_cons_succ]
      refine wpAnyH_done (by kernel_rfl) ?_ _
      have c0 := (HC.out _ HS).1
      have c1 := (HC.out _ HS).2
      have c2 := HQ.out _ HS
      have hl0 : (0 : Int) < ((l.length + 1 : Nat) : Int) := by omega
      have HB4 : Hid (BW w (w3.alloc (.cells #[.int .i64 (k1 : Int), .int .i64 (k2 : Int)] 61))) := BW.on HBD.out (BW.new (Below.refl _ _) _)
      have HX4 : NAt s p (w3.alloc (.cells #[.int .i64 (k1 : Int), .int .i64 (k2 : Int)] 61)) := Two.on HS (BW.new (Below.refl _ _) _)
      have K4 := Lib.hid (Blk.new #[.int .i64 (k1 : Int), .int .i64 (k2 : Int)] 61 w3)
      have hgB : g ≠ w3.heap.size := by have := HS.head.lt; rw [hg] at this; omega
      clear HS HY
      go_upto_region 4 with (fail)
      obtain ⟨B, hB⟩ : ∃ B, w3.heap.size = B := ⟨_, rfl⟩
      rw [hB] at K4 hgB ⊢
      clear hB c0 c1 c2
      generalize World.alloc w3 _ = w4 at *
      have q4 := HQ.out _ HX4
      have f4 : w4.frozen? ⟨g, 120, none⟩ = false := by rw [← hg]; exact HX4.head.free 120
      have HR4 := HX4.row
      rw [hv, hll, HL.out] at HR4
      have HT := RowO.tail (xs := ncCells (k1, k2)) (ys := cellsNc l) HR4 rfl
      obtain ⟨A', hA'⟩ : ∃ A' : Option Addr, some (if cap = 1 then (⟨b, off, none⟩ : Addr) else ⟨b, off + 1 * 2, none⟩) = A' := ⟨_, rfl⟩
      have hob : (Value.slice A' l.length (cap - 1)).ownBlock = p.vl.ownBlock := by rw [← hA', hv]; by_cases h1 : cap = 1 <;> simp [h1, Value.ownBlock]
      rw [hA'] at HT
      obtain ⟨t5, _, u5⟩ := Two.newRow (C' := nCells s) (i := 120) HX4 HT (grown_refl _ _) (.inl hob) (fun u => nCells_setL s p.vl u)
      rw [hg] at t5 u5
      have HX5 := Lib.hid t5
      have HU5 := Lib.hid u5
      have K5 := Lib.hid (K4.out.other (a := ⟨g, 120, none⟩) (Ne.symm hgB) (.slice A' l.length (cap - 1)))
      have HEX : ((l.length + 1 : Nat) : Int) = (l.length : Int) + 1 := by omega
      clear HT HR4 t5 u5
      go_upto_region 5 with (first
        | (refine Hz.val_arm (o := ⟨some 34, .slice _ _ _ _ _, _, _, _, _⟩) (v := .slice A' l.length (cap - 1)) (by kernel_rfl) (ex_fromO (p := 1) rfl rfl rfl (by omega) HCAP Try.underlying56 (by kernel_rfl) (by rw [hA']; rfl)) ?_))
      clear q4 f4 HX4 K4
      generalize World.setCell _ _ _ = w5 at *
      have hs5 : NS (nCells s (.slice A' l.length (cap - 1))) g #[.int .i64 (k1 : Int), .int .i64 (k2 : Int)] 61 B w5 := ⟨HX5.out.head, K5.out⟩
      clear K5
      refine wp_region_P (S := NS (nCells s (.slice A' l.length (cap - 1))) g #[.int .i64 (k1 : Int), .int .i64 (k2 : Int)] 61 B) (c := 12) (by kernel_rfl) ?_
      change wpAnyP _ _ _ _ _ _ _ _ _ (World.drew _)
      have HS : NS (nCells s (.slice A' l.length (cap - 1))) g #[.int .i64 (k1 : Int), .int .i64 (k2 : Int)] 61 B w5.drew := ⟨hs5.1.drew, hs5.2.drew⟩
      have hbd5 : Hid (BW w5 w5.drew) := Below.drew (Below.refl _ _)
      clear hs5
      generalize World.drew w5 = w6 at *
      refine hp_val (i := 0) (oi := ⟨some 37, .move _, _, _, _, _⟩) [12] (.pointer (some ⟨g, 0, none⟩)) rfl (by kernel_rfl) (by kernel_rfl) (by kernel_rfl) (by kernel_rfl) (by kernel_rfl) rfl (fun _ _ _ h => h) (by kernel_rfl) (fun _ _ => rfl) HS ?_
      simp only [Act.put, List.setIfInBounds_toArray, List.set_cons_zero, List.set_cons_succ]
      refine hp_val (i := 1) (oi := ⟨some 38, .move _, _, _, _, _⟩) [12] (.pointer (some ⟨g, 0, none⟩)) rfl (by kernel_rfl) (by kernel_rfl) (by kernel_rfl) (by kernel_rfl) (by kernel_rfl) rfl (fun _ _ _ h => h) (by kernel_rfl) (fun _ _ => rfl) HS ?_
      simp only [Act.put, List.setIfInBounds_toArray, List.set_cons_zero, List.set_cons_succ]
      refine hp_val (i := 2) (oi := ⟨some 39, .fieldAddr _ _ _, _, _, _, _⟩) [12] (.pointer (some ⟨B, 0, none⟩)) rfl (by kernel_rfl) (by kernel_rfl) (by kernel_rfl) (by kernel_rfl) (by kernel_rfl) rfl (fun _ _ _ h => h) (by kernel_rfl) (fun _ _ => by kernel_rfl) HS ?_
      simp only [Act.put, List.setIfInBounds_toArray, List.set_cons_zero, List.set_cons_succ]
      refine hp_val (i := 3) (oi := ⟨some 40, .load _ _, _, _, _, _⟩) [12] (.int .i64 (k1 : Int)) rfl (by kernel_rfl) (by kernel_rfl) (by kernel_rfl) (by kernel_rfl) (by kernel_rfl) rfl (fun _ _ _ h => h) (by kernel_rfl) (fun x hx => ex_load rfl rfl (hx.2.cell 0) (by kernel_rfl)) HS ?_
      simp only [Act.put, List.setIfInBounds_toArray, List.set_cons_zero, List.set_cons_succ]
      refine hp_val (i := 4) (oi := ⟨some 41, .nilCheck _, _, _, _, _⟩) [12] (.pointer (some ⟨g, 0, none⟩)) rfl (by kernel_rfl) (by kernel_rfl) (by kernel_rfl) (by kernel_rfl) (by kernel_rfl) rfl (fun _ _ _ h => h) (by kernel_rfl) (fun _ _ => rfl) HS ?_
      simp only [Act.put, List.setIfInBounds_toArray, List.set_cons_zero, List.set_cons_succ]
      refine hp_val (i := 5) (oi := ⟨some 42, .fieldAddr _ _ _, _, _, _, _⟩) [12] (.pointer (some ⟨g, 88, none⟩)) rfl (by kernel_rfl) (by kernel_rfl) (by kernel_rfl) (by kernel_rfl) (by kernel_rfl) rfl (fun _ _ _ h => h) (by kernel_rfl) (fun _ _ => by kernel_rfl) HS ?_
      simp only [Act.put, List.setIfInBounds_toArray, List.set_cons_zero, List.set_cons_succ]
      refine hp_val (i := 6) (oi := ⟨some 43, .indexAddr _ _ _, _, _, _, _⟩) [12] (.pointer (some ⟨g, 88 + k1, none⟩)) rfl (by kernel_rfl) (by kernel_rfl) (by kernel_rfl) (by kernel_rfl) (by kernel_rfl) rfl (fun _ _ _ h => h) (by kernel_rfl) (fun _ _ => Hz.ex_indexA (z := 1) rfl rfl rfl rfl hkl2 Try.underlying49 (by kernel_rfl) (by omega)) HS ?_
      simp only [Act.put, List.setIfInBounds_toArray, List.set_cons_zero, List.set_cons_succ]
      refine hp_val (i := 7) (oi := ⟨some 44, .load _ _, _, _, _, _⟩) [12] (.int .i64 (s.s k1 : Int)) rfl (by kernel_rfl) (by kernel_rfl) (by kernel_rfl) (by kernel_rfl) (by kernel_rfl) rfl (fun _ _ _ h => h) (by kernel_rfl) (fun x hx => ex_load rfl rfl ((hx.1.cell (88 + k1)).trans (nCells_s _ _ hkl2)) (by kernel_rfl)) HS ?_
      simp only [Act.put, List.setIfInBounds_toArray, List.set_cons_zero, List.set_cons_succ]
      refine hp_val (i := 8) (oi := ⟨some 45, .build _ _, _, _, _, _⟩) [12] (.agg #[.int .u64 0, .bool false]) rfl (by kernel_rfl) (by kernel_rfl) (by kernel_rfl) (by kernel_rfl) (by kernel_rfl) rfl (fun _ _ _ h => h) (by kernel_rfl) (fun _ _ => by kernel_rfl) HS ?_
      simp only [Act.put, List.setIfInBounds_toArray, List.set_cons_zero, List.set_cons_succ]
      refine hp_val (i := 9) (oi := ⟨some 46, .nilCheck _, _, _, _, _⟩) [10, 11, 12] (.pointer (some ⟨g, 0, none⟩)) rfl (by kernel_rfl) (by kernel_rfl) (by kernel_rfl) (by kernel_rfl) (by kernel_rfl) rfl (fun _ _ _ h => h) (by kernel_rfl) (fun _ _ => rfl) HS ?_
      simp only [Act.put, List.setIfInBounds_toArray, List.set_cons_zero, List.set_cons_succ]
      refine hp_val (i := 10) (oi := ⟨some 47, .fieldAddr _ _ _, _, _, _, _⟩) [11, 12] (.pointer (some ⟨g, 0, none⟩)) rfl (by kernel_rfl) (by kernel_rfl) (by kernel_rfl) (by kernel_rfl) (by kernel_rfl) rfl (fun _ _ _ h => h) (by kernel_rfl) (fun _ _ => by kernel_rfl) HS ?_
      simp only [Act.put, List.setIfInBounds_toArray, List.set_cons_zero, List.set_cons_succ]
      refine hp_val (i := 11) (oi := ⟨some 48, .indexAddr _ _ _, _, _, _, _⟩) [12] (.pointer (some ⟨g, 2 * s.s k1, none⟩)) rfl (by kernel_rfl) (by kernel_rfl) (by kernel_rfl) (by kernel_rfl) (by kernel_rfl) rfl (fun _ _ _ h => h) (by kernel_rfl) (fun _ _ => Hz.ex_indexA (z := 2) rfl rfl rfl rfl hsk Try.underlying55 (by kernel_rfl) (by omega)) HS ?_
      simp only [Act.put, List.setIfInBounds_toArray, List.set_cons_zero, List.set_cons_succ]
      refine hp_last (i := 12) (oi := ⟨none, .store _ _ _, _, _, _, _⟩) (by kernel_rfl) rfl (by kernel_rfl) (by kernel_rfl) ?_
      obtain ⟨w7, e7, b7, k7⟩ := cell_store (P := Try.prog) (ty := 54) HS.1 (by kernel_rfl) hsk 0 false rfl
      refine wp_store_cell rfl rfl rfl rfl e7 ?_
      refine wpAnyH_done (by kernel_rfl) ?_ _
      have HX6 := Two.on HX5.out hbd5.out
      have HX7 := Two.turn (C' := nCells ⟨updN s.v (s.s k1) 0, updN s.y (s.s k1) false, s.s, s.l⟩) HX6 b7 k7
      have K7 := HS.2.fr7 k7 hgB
      go_wp2_with (fail)
      have hs7 : NS (nCells ⟨updN s.v (s.s k1) 0, updN s.y (s.s k1) false, s.s, s.l⟩ (.slice A' l.length (cap - 1))) g #[.int .i64 (k1 : Int), .int .i64 (k2 : Int)] 61 B w7 := ⟨b7, K7⟩
      refine wp_region_P (S := NS (nCells ⟨updN s.v (s.s k1) 0, updN s.y (s.s k1) false, s.s, s.l⟩ (.slice A' l.length (cap - 1))) g #[.int .i64 (k1 : Int), .int .i64 (k2 : Int)] 61 B) (c := 8) (by kernel_rfl) ?_
      change wpAnyP _ _ _ _ _ _ _ _ _ (World.drew _)
      have HS8 : NS (nCells ⟨updN s.v (s.s k1) 0, updN s.y (s.s k1) false, s.s, s.l⟩ (.slice A' l.length (cap - 1))) g #[.int .i64 (k1 : Int), .int .i64 (k2 : Int)] 61 B w7.drew := ⟨hs7.1.drew, hs7.2.drew⟩
      have hbd7 : Hid (BW w7 w7.drew) := Below.drew (Below.refl _ _)
      have HX8 := Two.on HX7 hbd7.out
      clear hs7 K7 HX7 HS
      generalize hdr7 : World.drew w7 = w8 at *
      clear hdr7
      refine hp_val (i := 0) (oi := ⟨some 49, .move _, _, _, _, _⟩) [8] (.pointer (some ⟨g, 0, none⟩)) rfl (by kernel_rfl) (by kernel_rfl) (by kernel_rfl) (by kernel_rfl) (by kernel_rfl) rfl (fun _ _ _ h => h) (by kernel_rfl) (fun _ _ => rfl) HS8 ?_
      simp only [Act.put, List.setIfInBounds_toArray, List.set_cons_zero, List.set_cons_succ]
      refine hp_val (i := 1) (oi := ⟨some 50, .fieldAddr _ _ _, _, _, _, _⟩) [8] (.pointer (some ⟨B, 0, none⟩)) rfl (by kernel_rfl) (by kernel_rfl) (by kernel_rfl) (by kernel_rfl) (by kernel_rfl) rfl (fun _ _ _ h => h) (by kernel_rfl) (fun _ _ => by kernel_rfl) HS8 ?_
      simp only [Act.put, List.setIfInBounds_toArray, List.set_cons_zero, List.set_cons_succ]
      refine hp_val (i := 2) (oi := ⟨some 51, .load _ _, _, _, _, _⟩) [8] (.int .i64 (k1 : Int)) rfl (by kernel_rfl) (by kernel_rfl) (by kernel_rfl) (by kernel_rfl) (by kernel_rfl) rfl (fun _ _ _ h => h) (by kernel_rfl) (fun x hx => ex_load rfl rfl (hx.2.cell 0) (by kernel_rfl)) HS8 ?_
      simp only [Act.put, List.setIfInBounds_toArray, List.set_cons_zero, List.set_cons_succ]
      refine hp_val (i := 3) (oi := ⟨some 52, .fieldAddr _ _ _, _, _, _, _⟩) [8] (.pointer (some ⟨B, 1, none⟩)) rfl (by kernel_rfl) (by kernel_rfl) (by kernel_rfl) (by kernel_rfl) (by kernel_rfl) rfl (fun _ _ _ h => h) (by kernel_rfl) (fun _ _ => by kernel_rfl) HS8 ?_
      simp only [Act.put, List.setIfInBounds_toArray, List.set_cons_zero, List.set_cons_succ]
      refine hp_val (i := 4) (oi := ⟨some 53, .load _ _, _, _, _, _⟩) [8] (.int .i64 (k2 : Int)) rfl (by kernel_rfl) (by kernel_rfl) (by kernel_rfl) (by kernel_rfl) (by kernel_rfl) rfl (fun _ _ _ h => h) (by kernel_rfl) (fun x hx => ex_load rfl rfl (hx.2.cell 1) (by kernel_rfl)) HS8 ?_
      simp only [Act.put, List.setIfInBounds_toArray, List.set_cons_zero, List.set_cons_succ]
      refine hp_val (i := 5) (oi := ⟨some 54, .nilCheck _, _, _, _, _⟩) [6, 7, 8] (.pointer (some ⟨g, 0, none⟩)) rfl (by kernel_rfl) (by kernel_rfl) (by kernel_rfl) (by kernel_rfl) (by kernel_rfl) rfl (fun _ _ _ h => h) (by kernel_rfl) (fun _ _ => rfl) HS8 ?_
      simp only [Act.put, List.setIfInBounds_toArray, List.set_cons_zero, List.set_cons_succ]
      refine hp_val (i := 6) (oi := ⟨some 55, .fieldAddr _ _ _, _, _, _, _⟩) [7, 8] (.pointer (some ⟨g, 88, none⟩)) rfl (by kernel_rfl) (by kernel_rfl) (by kernel_rfl) (by kernel_rfl) (by kernel_rfl) rfl (fun _ _ _ h => h) (by kernel_rfl) (fun _ _ => by kernel_rfl) HS8 ?_
      simp only [Act.put, List.setIfInBounds_toArray, List.set_cons_zero, List.set_cons_succ]
      refine hp_val (i := 7) (oi := ⟨some 56, .indexAddr _ _ _, _, _, _, _⟩) [8] (.pointer (some ⟨g, 88 + k1, none⟩)) rfl (by kernel_rfl) (by kernel_rfl) (by kernel_rfl) (by kernel_rfl) (by kernel_rfl) rfl (fun _ _ _ h => h) (by kernel_rfl) (fun _ _ => Hz.ex_indexA (z := 1) rfl rfl rfl rfl hkl2 Try.underlying49 (by kernel_rfl) (by omega)) HS8 ?_
      simp only [Act.put, List.setIfInBounds_toArray, List.set_cons_zero, List.set_cons_succ]
      refine hp_last (i := 8) (oi := ⟨none, .store _ _ _, _, _, _, _⟩) (by kernel_rfl) rfl (by kernel_rfl) (by kernel_rfl) ?_
      refine wp_store_one (v := .int .i64 (k2 : Int)) rfl rfl rfl rfl ((HS8.1.cell (88 + k1)).trans (nCells_s _ _ hkl2)) (HS8.1.free _) (by kernel_rfl) rfl rfl ?_
      refine wpAnyH_done (by kernel_rfl) ?_ _
      go_wp2
      go_ret
      have b9 := HS8.1.set (88 + k1) (.int .i64 (k2 : Int))
      rw [nCells_setS _ _ hkl2] at b9
      have k9 : Fr [g] w8 (w8.setCell ⟨g, 88 + k1, none⟩ (.int .i64 (k2 : Int))) := (Fr.refl [g] w8).setCell (.inl (by simp)) _
      have HX9 := Two.turn (C' := nCells (retK s (k1, k2) l)) HX8 b9 k9
      rw [HE3.out, hy]
      refine ⟨rfl, HUP.out _ _ HB4.out _ ⟨⟨g, .slice A' l.length (cap - 1)⟩, HX9, hg.symm, ?_, ?_⟩⟩
      · intro i hi
        left
        simp only [Npl.foot, List.mem_cons, Option.mem_toList] at hi ⊢
        rw [hob] at hi
        rw [hg]
        exact hi
      · exact (((HU5.out.on hbd5.out).trans (k7.wide (by intro i hi; rw [List.mem_singleton.1 hi, ← hg]; exact foot_head p)) (fun i hi => .inl hi)).on hbd7.out).trans (k9.wide (by intro i hi; rw [List.mem_singleton.1 hi, ← hg]; exact foot_head p)) (fun i hi => .inl hi)
end Go.Proofs.Ytoahejjeihmiiaa
