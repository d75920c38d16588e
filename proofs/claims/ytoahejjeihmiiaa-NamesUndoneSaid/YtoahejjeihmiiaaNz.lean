/- Package names: Undo. -/
import Derived.Test.YtoahejjeihmiiaaNy
set_option maxRecDepth 100000
set_option linter.unusedVariables false
namespace Go.Proofs.Ytoahejjeihmiiaa
open Go.RowKit

def undOk (s : Nst) : Bool := !s.l.isEmpty
theorem undN_snoc {s : Nst} {k : Nat × Nat} {l : List (Nat × Nat)} (h : s.l = l ++ [k]) : undN s = undK s k.2 l := by
  unfold undN
  rw [h]
  simp
theorem snoc_of {l : List (Nat × Nat)} (h : l ≠ []) : ∃ m k, l = m ++ [k] := ⟨l.dropLast, l.getLast h, (List.dropLast_concat_getLast h).symm⟩
theorem undo15_nil (w : World) : Calls Try.prog 16 #[.pointer none] w fun e w' => e = .returned (.bool false) ∧ BW w w' := by
  go_enter Try.func16, Try.ntmps16
  go_wp2_with (first
    | (go_at_call 18; refine (claims_nil _).mono ?_; rintro e w2 ⟨rfl, rfl⟩))
  go_ret
  exact ⟨rfl, Below.refl _ _⟩
set_option maxHeartbeats 4000000 in
theorem undo15_c {s : Nst} {p : Npl} {w : World} (h : NAt s p w) (ok : NOk s) : Calls Try.prog 16 #[.pointer (some ⟨p.g, 0, none⟩)] w fun e w' => e = .returned (.bool (undOk s)) ∧ UpT (NAt (undN s)) p w w' := by
  obtain ⟨g, hg⟩ : ∃ g, p.g = g := ⟨_, rfl⟩
  have HCL := Lib.hid (fun x (hx : NAt s p x) => NAt.claims hg x hx)
  have HUP := Lib.hid (fun t x (hx : BW w x) (y : World) (hu : UpT (NAt t) p x y) => UpT.ahead hx hu)
  by_cases hl : s.l = []
  · have e1 : undOk s = false := by unfold undOk; rw [hl]; rfl
    have e2 : undN s = s := by unfold undN; rw [hl]; rfl
    have hn : (s.l.length : Int) = 0 := by rw [hl]; rfl
    rw [e1, e2, hg]
    simp only [hn] at HCL
    have HS := Lib.hid h
    clear e1 e2 hn hl h
    go_enter Try.func16, Try.ntmps16
    go_wp2_with (first
      | (go_at_call 18; refine (HCL.out _ HS.out).mono ?_; rintro e w2 ⟨rfl, rfl⟩))
    go_ret
    exact ⟨rfl, UpT.same HS.out (Fr.refl _ _)⟩
  · obtain ⟨l, ⟨k1, k2⟩, hls⟩ := snoc_of hl
    have hll : s.l.length = l.length + 1 := by rw [hls, List.length_append]; rfl
    obtain ⟨b, off, cap, hv, hcap, hbg⟩ := h.some_row (by omega)
    have hk0 : s.l[l.length]'(by omega) = (k1, k2) := by simp [hls]
    obtain ⟨hkl1, hkl2, hkl3⟩ := ok.cl (k1, k2) (by rw [hls]; simp)
    have hlen := ok.len
    have HC := Lib.hid (fun x (hx : NAt s p x) => hx.row_cell hv (j := l.length) (by omega))
    simp only [hk0] at HC
    have HQ := Lib.hid (fun x (hx : NAt s p x) => (hg ▸ hv ▸ hx.head_cell : x.cell? ⟨g, 120, none⟩ = some (.slice (some ⟨b, off, none⟩) s.l.length cap)))
    rw [hll] at HQ hlen
    have HCL2 := Lib.hid (fun x (hx : NAt s p x) => (hll ▸ HCL.out x hx : Calls Try.prog 18 #[.pointer (some ⟨g, 0, none⟩)] x fun e x' => e = .returned (.int .i64 ((l.length + 1 : Nat) : Int)) ∧ x = x'))
    have e1 : undOk s = true := by unfold undOk; rw [hls]; simp
    rw [e1, hg, undN_snoc hls]
    have HL := Lib.hid hls
    have hlI : (((l.length + 1 : Nat) : Int) == 0) = false := by simp; omega
    have hlJ : ((l.length + 1 : Nat) : Int) - 1 = (l.length : Int) := by omega
    have HCAP : l.length + 1 ≤ cap := by omega
    have HS0 := Lib.hid h
    have q0 := HQ.out _ h
    clear e1 hl hls HCL hcap h
    go_enter Try.func16, Try.ntmps16
    go_upto_region 4 with (first
      | (go_at_call 18; refine (HCL2.out _ HS0.out).mono ?_; rintro e w2 ⟨rfl, rfl⟩))
    clear q0
    have HS : NAt s p w.drew := Two.on HS0.out (Below.drew (Below.refl _ _))
    have HBD : Hid (BW w w.drew) := Below.drew (Below.refl _ _)
    clear HS0
    refine wp_region_P (S := NAt s p) (c := 13) (by kernel_rfl) ?_
    change wpAnyP _ _ _ _ _ _ _ _ _ (World.drew _)
    generalize hdr : World.drew w = w3 at *
    clear hdr
    refine hp_val (i := 0) (oi := ⟨some 13, .move _, _, _, _, _⟩) [13] (.pointer (some ⟨g, 0, none⟩)) rfl (by kernel_rfl) (by kernel_rfl) (by kernel_rfl) (by kernel_rfl) (by kernel_rfl) rfl (fun _ _ _ h => h) (by kernel_rfl) (fun _ _ => rfl) HS ?_
    simp only [Act.put, List.setIfInBounds_toArray, List.set_cons_zero, List.set_cons_succ]
    refine hp_val (i := 1) (oi := ⟨some 14, .move _, _, _, _, _⟩) [13] (.pointer (some ⟨g, 0, none⟩)) rfl (by kernel_rfl) (by kernel_rfl) (by kernel_rfl) (by kernel_rfl) (by kernel_rfl) rfl (fun _ _ _ h => h) (by kernel_rfl) (fun _ _ => rfl) HS ?_
    simp only [Act.put, List.setIfInBounds_toArray, List.set_cons_zero, List.set_cons_succ]
    refine hp_val (i := 2) (oi := ⟨some 15, .nilCheck _, _, _, _, _⟩) [13] (.pointer (some ⟨g, 0, none⟩)) rfl (by kernel_rfl) (by kernel_rfl) (by kernel_rfl) (by kernel_rfl) (by kernel_rfl) rfl (fun _ _ _ h => h) (by kernel_rfl) (fun _ _ => rfl) HS ?_
    simp only [Act.put, List.setIfInBounds_toArray, List.set_cons_zero, List.set_cons_succ]
    refine hp_val (i := 3) (oi := ⟨some 16, .fieldAddr _ _ _, _, _, _, _⟩) [13] (.pointer (some ⟨g, 120, none⟩)) rfl (by kernel_rfl) (by kernel_rfl) (by kernel_rfl) (by kernel_rfl) (by kernel_rfl) rfl (fun _ _ _ h => h) (by kernel_rfl) (fun _ _ => by kernel_rfl) HS ?_
    simp only [Act.put, List.setIfInBounds_toArray, List.set_cons_zero, List.set_cons_succ]
    refine hp_val (i := 4) (oi := ⟨some 17, .load _ _, _, _, _, _⟩) [13] (.slice (some ⟨b, off, none⟩) (l.length + 1) cap) rfl (by kernel_rfl) (by kernel_rfl) (by kernel_rfl) (by kernel_rfl) (by kernel_rfl) rfl (fun _ _ _ h => h) (by kernel_rfl) (fun x hx => ex_load rfl rfl (HQ.out x hx) (by kernel_rfl)) HS ?_
    simp only [Act.put, List.setIfInBounds_toArray, List.set_cons_zero, List.set_cons_succ]
    refine hp_val (i := 5) (oi := ⟨some 18, .move _, _, _, _, _⟩) [13] (.int .i64 (l.length : Int)) rfl (by kernel_rfl) (by kernel_rfl) (by kernel_rfl) (by kernel_rfl) (by kernel_rfl) rfl (fun _ _ _ h => h) (by kernel_rfl) (fun _ _ => rfl) HS ?_
    simp only [Act.put, List.setIfInBounds_toArray, List.set_cons_zero, List.set_cons_succ]
    refine hp_val (i := 6) (oi := ⟨some 19, .indexAddr _ _ _, _, _, _, _⟩) [13] (.pointer (some ⟨b, off + l.length * 2, none⟩)) rfl (by kernel_rfl) (by kernel_rfl) (by kernel_rfl) (by kernel_rfl) (by kernel_rfl) rfl (fun _ _ _ h => h) (by kernel_rfl) (fun _ _ => Hz.ex_indexp (j := l.length) (z := 2) rfl rfl rfl rfl (by omega) Try.underlying56 (by kernel_rfl) rfl) HS ?_
    simp only [Act.put, List.setIfInBounds_toArray, List.set_cons_zero, List.set_cons_succ]
    refine hp_val (i := 7) (oi := ⟨some 20, .fieldAddr _ _ _, _, _, _, _⟩) [13] (.pointer (some ⟨b, off + l.length * 2 + 1, none⟩)) rfl (by kernel_rfl) (by kernel_rfl) (by kernel_rfl) (by kernel_rfl) (by kernel_rfl) rfl (fun _ _ _ h => h) (by kernel_rfl) (fun _ _ => by kernel_rfl) HS ?_
    simp only [Act.put, List.setIfInBounds_toArray, List.set_cons_zero, List.set_cons_succ]
    refine hp_val (i := 8) (oi := ⟨some 21, .load _ _, _, _, _, _⟩) [13] (.int .i64 (k2 : Int)) rfl (by kernel_rfl) (by kernel_rfl) (by kernel_rfl) (by kernel_rfl) (by kernel_rfl) rfl (fun _ _ _ h => h) (by kernel_rfl) (fun x hx => ex_load rfl rfl (HC.out x hx).2 (by kernel_rfl)) HS ?_
    simp only [Act.put, List.setIfInBounds_toArray, List.set_cons_zero, List.set_cons_succ]
    refine hp_val (i := 9) (oi := ⟨some 22, .build _ _, _, _, _, _⟩) [13] (.agg #[.int .u64 0, .bool false]) rfl (by kernel_rfl) (by kernel_rfl) (by kernel_rfl) (by kernel_rfl) (by kernel_rfl) rfl (fun _ _ _ h => h) (by kernel_rfl) (fun _ _ => by kernel_rfl) HS ?_
    simp only [Act.put, List.setIfInBounds_toArray, List.set_cons_zero, List.set_cons_succ]
    refine hp_val (i := 10) (oi := ⟨some 23, .nilCheck _, _, _, _, _⟩) [11, 12, 13] (.pointer (some ⟨g, 0, none⟩)) rfl (by kernel_rfl) (by kernel_rfl) (by kernel_rfl) (by kernel_rfl) (by kernel_rfl) rfl (fun _ _ _ h => h) (by kernel_rfl) (fun _ _ => rfl) HS ?_
    simp only [Act.put, List.setIfInBounds_toArray, List.set_cons_zero, List.set_cons_succ]
    refine hp_val (i := 11) (oi := ⟨some 24, .fieldAddr _ _ _, _, _, _, _⟩) [12, 13] (.pointer (some ⟨g, 0, none⟩)) rfl (by kernel_rfl) (by kernel_rfl) (by kernel_rfl) (by kernel_rfl) (by kernel_rfl) rfl (fun _ _ _ h => h) (by kernel_rfl) (fun _ _ => by kernel_rfl) HS ?_
    simp only [Act.put, List.setIfInBounds_toArray, List.set_cons_zero, List.set_cons_succ]
    refine hp_val (i := 12) (oi := ⟨some 25, .indexAddr _ _ _, _, _, _, _⟩) [13] (.pointer (some ⟨g, 2 * k2, none⟩)) rfl (by kernel_rfl) (by kernel_rfl) (by kernel_rfl) (by kernel_rfl) (by kernel_rfl) rfl (fun _ _ _ h => h) (by kernel_rfl) (fun _ _ => Hz.ex_indexA (z := 2) rfl rfl rfl rfl hkl3 Try.underlying55 (by kernel_rfl) (by omega)) HS ?_
    simp only [Act.put, List.setIfInBounds_toArray, List.set_cons_zero, List.set_cons_succ]
    refine hp_last (i := 13) (oi := ⟨none, .store _ _ _, _, _, _, _⟩) (by kernel_rfl) rfl (by kernel_rfl) (by kernel_rfl) ?_
    obtain ⟨w5, e5, b5, k5⟩ := cell_store (P := Try.prog) (ty := 54) (hg ▸ HS.head) (by kernel_rfl) hkl3 0 false rfl
    refine wp_store_cell rfl rfl rfl rfl e5 ?_
    refine wpAnyH_done (by kernel_rfl) ?_ _
    have HX5 := Two.turn (C' := nCells (undK s k2 l)) HS (by rw [hg]; exact b5) (by rw [hg]; exact k5)
    have q5 : w5.cell? ⟨g, 120, none⟩ = some p.vl := (b5.cell 120).trans (nCells_l _ _)
    rw [hv, hll] at q5
    have f5 : w5.frozen? ⟨g, 120, none⟩ = false := b5.free 120
    have HR5 := HX5.row
    rw [hv] at HR5
    have HT := RowO.init (m := l.length) (c' := l.length) HR5 (by omega) (by omega) (Nat.le_refl _)
    rw [HL.out, cellsNc_snoc, List.take_left' (cellsNc_len l)] at HT
    have hob : (Value.slice (some ⟨b, off, none⟩) l.length l.length).ownBlock = p.vl.ownBlock := by rw [hv]; rfl
    obtain ⟨t6, _, u6⟩ := Two.newRow (C' := nCells (undK s k2 l)) (i := 120) HX5 HT (grown_refl _ _) (.inl hob) (fun u => nCells_setL _ p.vl u)
    rw [hg] at t6 u6
    have HX6 := Lib.hid t6
    have HU6 := Lib.hid u6
    clear HT HR5 t6 u6
    go_wp2_with (first
      | (refine Hz.val_arm (o := ⟨some 33, .slice _ _ _ _ _, _, _, _, _⟩) (v := .slice (some ⟨b, off, none⟩) l.length l.length) (by kernel_rfl) (ex_toMax rfl rfl rfl rfl (Nat.le_refl _) (by omega) Try.underlying56 (by kernel_rfl)) ?_))
    go_ret
    refine ⟨rfl, HUP.out _ _ HBD.out _ ⟨⟨g, .slice (some ⟨b, off, none⟩) l.length l.length⟩, HX6.out, hg.symm, ?_, ?_⟩⟩
    · intro i hi
      left
      simp only [Npl.foot, List.mem_cons, Option.mem_toList] at hi ⊢
      rw [hob] at hi
      rw [hg]
      exact hi
    · exact (k5.wide (by intro i hi; rw [List.mem_singleton.1 hi, ← hg]; exact foot_head p)).trans HU6.out (fun i hi => .inl hi)
end Go.Proofs.Ytoahejjeihmiiaa
