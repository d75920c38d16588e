/- Layer 12: a memory is the document's: all that it has is compared. -/
import Derived.Test.YteoemjhhjnkkiaaYd
import Derived.Test.YteoemjhhjnkkiaaMf
set_option maxRecDepth 100000
set_option linter.unusedVariables false
namespace Go.Proofs.Yteoemjhhjnkkiaa
open Go.RowKit

theorem run_neq_wr (a b c d : Int) (w : World) : (binOp .neq 31 (.agg #[.int .i64 a, .int .i64 b, .int .i64 c, .int .u64 d]) (.agg #[.int .i64 a, .int .i64 b, .int .i64 c, .int .u64 d])).run Try.prog w = .ok (.bool false) w :=
  run_neq_same w 31 (by kernel_rfl) (by kernel_rfl) (by kernel_rfl)
set_option maxHeartbeats 4000000 in
theorem sameW_c (A A' : Option Addr) (c c' : Nat) (l : List Wr) (w : World) (hl : l.length ≤ 100000) (hr : Rd w w.heap.size A (cellsW l)) (hr' : Rd w w.heap.size A' (cellsW l)) :
    Calls Try.prog 43 #[.slice A l.length c, .slice A' l.length c'] w fun e w' => e = .returned (.bool true) ∧ BW w w' := by
  have hl' : (l.length : Int) ≤ 9223372036854775807 := by omega
  have HR := Lib.hid hr
  have HR' := Lib.hid hr'
  have HB0 : Hid (BW w w) := Below.refl _ _
  clear hr hr'
  go_enter Try.func43, Try.ntmps43
  go_wp2
  go_loopw [5] (fun i wx => ∃ k : Nat, k ≤ l.length ∧ i = .int .i64 (k : Int) ∧ BW w wx) (fun i _ => l.length - (intOf i).toNat)
  case atStart => exact ⟨0, by omega, rfl, HB0.out⟩
  case round =>
    obtain ⟨k, hk0, rfl, hbw⟩ := hrel
    have HBW := Lib.hid hbw
    clear hbw HB0
    by_cases hk : k < l.length
    · have hk' : (k : Int) < (l.length : Int) := by omega
      obtain ⟨b, off, hA, hbl, hcell⟩ := wr_cell HR.out (by omega)
      obtain ⟨b', off', hA', hbl', hcell'⟩ := wr_cell HR'.out (by omega)
      have hat := hcell k hk
      have hat' := hcell' k hk
      obtain ⟨⟨yi, ya, yz, yd⟩, hx⟩ : ∃ x, l[k] = x := ⟨_, rfl⟩
      rw [hx] at hat hat'
      have HFC := Lib.hid (fun (x : World) (hb : BW w x) => (⟨(Below.cell hb hbl).trans hat.1, (Below.cell hb hbl).trans hat.2.1, (Below.cell hb hbl).trans hat.2.2.1, (Below.cell hb hbl).trans hat.2.2.2⟩ : x.cell? ⟨b, off + k * 4, none⟩ = some (.int .i64 yi) ∧ x.cell? ⟨b, off + k * 4 + 1, none⟩ = some (.int .i64 ya) ∧ x.cell? ⟨b, off + k * 4 + 2, none⟩ = some (.int .i64 yz) ∧ x.cell? ⟨b, off + k * 4 + 3, none⟩ = some (.int .u64 yd)))
      have HFD := Lib.hid (fun (x : World) (hb : BW w x) => (⟨(Below.cell hb hbl').trans hat'.1, (Below.cell hb hbl').trans hat'.2.1, (Below.cell hb hbl').trans hat'.2.2.1, (Below.cell hb hbl').trans hat'.2.2.2⟩ : x.cell? ⟨b', off' + k * 4, none⟩ = some (.int .i64 yi) ∧ x.cell? ⟨b', off' + k * 4 + 1, none⟩ = some (.int .i64 ya) ∧ x.cell? ⟨b', off' + k * 4 + 2, none⟩ = some (.int .i64 yz) ∧ x.cell? ⟨b', off' + k * 4 + 3, none⟩ = some (.int .u64 yd)))
      subst hA hA'
      clear hcell hcell' hat hat' hx
      go_upto_region 6 with (fail)
      have HS := BW.on HBW.out (Below.drew (Below.refl _ _))
      clear HBW
      refine wp_region_held (S := fun x => BW w x) (by kernel_rfl) ?_
      change wpAnyH _ _ _ _ _ _ _ _ (World.drew _)
      generalize World.drew _ = w8 at *
      refine hk_val (i := 0) (oi := ⟨some 17, .move _, _, _, _, _⟩) (.slice (some ⟨b, off, none⟩) l.length c) rfl (by kernel_rfl) (by kernel_rfl) (by kernel_rfl) (fun _ _ _ h => h) (by kernel_rfl) (fun _ _ => rfl) HS ?_
      simp only [Act.put, List.setIfInBounds_toArray, List.set_cons_zero, List.set_cons_succ]
      refine hk_val (i := 1) (oi := ⟨some 18, .move _, _, _, _, _⟩) (.int .i64 (k : Int)) rfl (by kernel_rfl) (by kernel_rfl) (by kernel_rfl) (fun _ _ _ h => h) (by kernel_rfl) (fun _ _ => rfl) HS ?_
      simp only [Act.put, List.setIfInBounds_toArray, List.set_cons_zero, List.set_cons_succ]
      refine hk_val (i := 2) (oi := ⟨some 19, .indexAddr _ _ _, _, _, _, _⟩) (.pointer (some ⟨b, off + k * 4, none⟩)) rfl (by kernel_rfl) (by kernel_rfl) (by kernel_rfl) (fun _ _ _ h => h) (by kernel_rfl) (fun _ _ => ex_indexz rfl rfl rfl rfl hk Try.underlying48 (by kernel_rfl)) HS ?_
      simp only [Act.put, List.setIfInBounds_toArray, List.set_cons_zero, List.set_cons_succ]
      refine hk_val (i := 3) (oi := ⟨some 20, .load _ _, _, _, _, _⟩) (.agg #[.int .i64 yi, .int .i64 ya, .int .i64 yz, .int .u64 yd]) rfl (by kernel_rfl) (by kernel_rfl) (by kernel_rfl) (fun _ _ _ h => h) (by kernel_rfl) (fun x hx => ex_load4 rfl rfl (HFC.out x hx).1 (HFC.out x hx).2.1 (HFC.out x hx).2.2.1 (HFC.out x hx).2.2.2 Try.underlying31 rfl (by kernel_rfl)) HS ?_
      simp only [Act.put, List.setIfInBounds_toArray, List.set_cons_zero, List.set_cons_succ]
      refine hk_val (i := 4) (oi := ⟨some 21, .move _, _, _, _, _⟩) (.slice (some ⟨b', off', none⟩) l.length c') rfl (by kernel_rfl) (by kernel_rfl) (by kernel_rfl) (fun _ _ _ h => h) (by kernel_rfl) (fun _ _ => rfl) HS ?_
      simp only [Act.put, List.setIfInBounds_toArray, List.set_cons_zero, List.set_cons_succ]
      refine hk_val (i := 5) (oi := ⟨some 22, .move _, _, _, _, _⟩) (.int .i64 (k : Int)) rfl (by kernel_rfl) (by kernel_rfl) (by kernel_rfl) (fun _ _ _ h => h) (by kernel_rfl) (fun _ _ => rfl) HS ?_
      simp only [Act.put, List.setIfInBounds_toArray, List.set_cons_zero, List.set_cons_succ]
      refine hk_val (i := 6) (oi := ⟨some 23, .indexAddr _ _ _, _, _, _, _⟩) (.pointer (some ⟨b', off' + k * 4, none⟩)) rfl (by kernel_rfl) (by kernel_rfl) (by kernel_rfl) (fun _ _ _ h => h) (by kernel_rfl) (fun _ _ => ex_indexz rfl rfl rfl rfl hk Try.underlying48 (by kernel_rfl)) HS ?_
      simp only [Act.put, List.setIfInBounds_toArray, List.set_cons_zero, List.set_cons_succ]
      refine hk_val (i := 7) (oi := ⟨some 24, .load _ _, _, _, _, _⟩) (.agg #[.int .i64 yi, .int .i64 ya, .int .i64 yz, .int .u64 yd]) rfl (by kernel_rfl) (by kernel_rfl) (by kernel_rfl) (fun _ _ _ h => h) (by kernel_rfl) (fun x hx => ex_load4 rfl rfl (HFD.out x hx).1 (HFD.out x hx).2.1 (HFD.out x hx).2.2.1 (HFD.out x hx).2.2.2 Try.underlying31 rfl (by kernel_rfl)) HS ?_
      simp only [Act.put, List.setIfInBounds_toArray, List.set_cons_zero, List.set_cons_succ]
      refine hk_val (i := 8) (oi := ⟨some 25, .binOp _ _ _ _ _, _, _, _, _⟩) (.bool false) rfl (by kernel_rfl) (by kernel_rfl) (by kernel_rfl) (fun _ _ _ h => h) (by kernel_rfl) (fun x _ => exec_cmp rfl (by kernel_rfl) rfl rfl (run_neq_wr _ _ _ _ x)) HS ?_
      simp only [Act.put, List.setIfInBounds_toArray, List.set_cons_zero, List.set_cons_succ]
      refine wpAnyH_done (by kernel_rfl) ?_ _
      go_wp2
      go_roundw
      case rel => exact ⟨k + 1, by omega, by go_num, HS⟩
      case measure => simp [intOf]; omega
    · obtain rfl : k = l.length := by omega
      have hk' : ¬ (l.length : Int) < (l.length : Int) := by omega
      go_wp2
      go_ret
      exact ⟨rfl, HBW.out⟩
theorem sameB_eq (A A' : Option Addr) (c c' : Nat) (l : List Int) (n : Nat) (w : World) (hn : l.length = n) (hl : n ≤ 100000) (hr : Rd w w.heap.size A (cellsB l)) (hr' : Rd w w.heap.size A' (cellsB l)) :
    Calls Try.prog 40 #[.slice A n c, .slice A' n c'] w fun e w' => e = .returned (.bool true) ∧ BW w w' := by
  subst hn
  refine (same_any A A' c c' l l w (by omega) hr hr').mono fun e w' h => ?_
  obtain ⟨h1, h2⟩ := h
  exact ⟨by rw [h1]; simp, h2⟩
theorem sameI_eq (A A' : Option Addr) (c c' : Nat) (l : List Int) (n : Nat) (w : World) (hn : l.length = n) (hl : n ≤ 100000) (hr : Rd w w.heap.size A (cellsI l)) (hr' : Rd w w.heap.size A' (cellsI l)) :
    Calls Try.prog 19 #[.slice A n c, .slice A' n c'] w fun e w' => e = .returned (.bool true) ∧ BW w w' := by
  subst hn
  refine (sameInts_any A A' c c' l l w (by omega) hr hr').mono fun e w' h => ?_
  obtain ⟨h1, h2⟩ := h
  exact ⟨by rw [h1]; simp, h2⟩
/-- Both memories, in a world behind w. -/
def SS (s : Mst) (p : Pla) (q : Plr) (w x : World) : Prop := BW w x ∧ RamAt s p x ∧ RrAt s q x
theorem SS.on {s : Mst} {p : Pla} {q : Plr} {w x y : World} (h : SS s p q w x) (k : BW x y) : SS s p q w y := ⟨h.1.on k, h.2.1.on k, h.2.2.on k⟩
set_option maxHeartbeats 8000000 in
theorem same_c {s : Mst} {p : Pla} {q : Plr} {w : World} (h1 : RamAt s p w) (h2 : RrAt s q w) (hok : MsOk s) (hl : s.l.length ≤ 1000) : Calls Try.prog 22 #[.pointer (some ⟨p.g, 0, none⟩), .pointer (some ⟨q.g, 0, none⟩)] w fun e w' => e = .returned (.bool true) ∧ BW w w' := by
  obtain ⟨AL, cL, hvl, -⟩ := own_parts h2.log
  have HS : SS s p q w w.drew := ⟨Below.drew (Below.refl _ _), h1.on (Below.drew (Below.refl _ _)), h2.on (Below.drew (Below.refl _ _))⟩
  have hn := hok.n
  have HCB := Lib.hid (fun (x : World) (h : SS s p q w x) => bytes_c h.2.1 hn)
  have HCT := Lib.hid (fun (x : World) (h : SS s p q w x) => tags_c h.2.1 hn)
  have HCL := Lib.hid (fun (x : World) (h : SS s p q w x) => log_c h.2.1 hl)
  have HRB := Lib.hid (fun (x : World) (h : SS s p q w x) => rbytes_c12 h.2.2 hok hl)
  have HRT := Lib.hid (fun (x : World) (h : SS s p q w x) => rtags_c12 h.2.2 hok hl)
  have hlg : ∀ x, SS s p q w x → x.cell? ⟨q.g, 1, none⟩ = some (.slice AL s.l.length cL) ∧ Rd x x.heap.size AL (cellsW s.l) := fun x h => by
    have h3 := h.2.2.head.cell 1
    have h4 := h.2.2.log
    rw [hvl] at h4
    have h5 : x.cell? ⟨q.g, 1, none⟩ = some q.vl := h3
    rw [hvl] at h5
    exact ⟨h5, Rd.of_row h4⟩
  have HLG := Lib.hid hlg
  have HBL := Lib.hid (bytesM_len s.b0 s.l)
  have HTL := Lib.hid (tagsM_len s.b0 s.l)
  clear h1 h2 hok hvl hlg
  go_enter Try.func22, Try.ntmps22
  go_wp2
  refine wp_region_held (S := SS s p q w) (by kernel_rfl) ?_
  change wpAnyH _ _ _ _ _ _ _ _ (World.drew _)
  generalize World.drew _ = w0 at *
  refine hk_val (i := 0) (oi := ⟨some 5, .move _, _, _, _, _⟩) (.pointer (some ⟨p.g, 0, none⟩)) rfl (by kernel_rfl) (by kernel_rfl) (by kernel_rfl) (fun _ _ _ h => h) (by kernel_rfl) (fun _ _ => rfl) HS ?_
  simp only [Act.put, List.setIfInBounds_toArray, List.set_cons_zero, List.set_cons_succ]
  refine hk_val (i := 2) (oi := ⟨some 7, .move _, _, _, _, _⟩) (.pointer (some ⟨q.g, 0, none⟩)) rfl (by kernel_rfl) (by kernel_rfl) (by kernel_rfl) (fun _ _ _ h => h) (by kernel_rfl) (fun _ _ => rfl) HS ?_
  simp only [Act.put, List.setIfInBounds_toArray, List.set_cons_zero, List.set_cons_succ]
  refine hk_call (i := 1) (oi := ⟨some 6, .call _, _, _, _, _⟩) (by kernel_rfl) rfl (by kernel_rfl) (by first | rfl | kernel_rfl) (HCB.out _ HS) ?_
  rintro e w1 ⟨v, rfl, ho, hb⟩
  obtain ⟨A1, cA1, rfl, -⟩ := own_parts ho
  have HR1 := Lib.hid (Rd.of_row ho)
  clear ho
  have HS1 := HS.on hb
  refine ⟨_, rfl, HS1, ?_⟩
  clear hb HS
  simp only [Act.put, List.setIfInBounds_toArray, List.set_cons_zero, List.set_cons_succ]
  refine hk_call (i := 3) (oi := ⟨some 8, .call _, _, _, _, _⟩) (by kernel_rfl) rfl (by kernel_rfl) (by first | rfl | kernel_rfl) (HRB.out _ HS1) ?_
  rintro e w2 ⟨v, rfl, ho, hb⟩
  obtain ⟨A2, cA2, rfl, -⟩ := own_parts ho
  have HR2 := Lib.hid (Rd.of_row ho)
  have HR1b := Lib.hid ((HR1.out.below hb).mono (Below.size hb))
  clear HR1
  clear ho
  have HS2 := HS1.on hb
  refine ⟨_, rfl, HS2, ?_⟩
  clear hb HS1
  simp only [Act.put, List.setIfInBounds_toArray, List.set_cons_zero, List.set_cons_succ]
  refine hk_call (i := 4) (oi := ⟨some 9, .call _, _, _, _, _⟩) (by kernel_rfl) rfl (by kernel_rfl) (by first | rfl | kernel_rfl) (sameB_eq A1 A2 cA1 cA2 (bytesM s.b0 s.l) s.b0.length _ HBL.out (by omega) HR1b.out HR2.out) ?_
  rintro e w3 ⟨rfl, hb⟩
  have HS3 := HS2.on hb
  refine ⟨_, rfl, HS3, ?_⟩
  clear hb HS2
  simp only [Act.put, List.setIfInBounds_toArray, List.set_cons_zero, List.set_cons_succ]
  refine hk_val (i := 5) (oi := ⟨some 10, .move _, _, _, _, _⟩) (.bool true) rfl (by kernel_rfl) (by kernel_rfl) (by kernel_rfl) (fun _ _ _ h => h) (by kernel_rfl) (fun _ _ => rfl) HS3 ?_
  simp only [Act.put, List.setIfInBounds_toArray, List.set_cons_zero, List.set_cons_succ]
  refine hk_val (i := 6) (oi := ⟨some 11, .move _, _, _, _, _⟩) (.pointer (some ⟨p.g, 0, none⟩)) rfl (by kernel_rfl) (by kernel_rfl) (by kernel_rfl) (fun _ _ _ h => h) (by kernel_rfl) (fun _ _ => rfl) HS3 ?_
  simp only [Act.put, List.setIfInBounds_toArray, List.set_cons_zero, List.set_cons_succ]
  refine hk_val (i := 8) (oi := ⟨some 13, .move _, _, _, _, _⟩) (.pointer (some ⟨q.g, 0, none⟩)) rfl (by kernel_rfl) (by kernel_rfl) (by kernel_rfl) (fun _ _ _ h => h) (by kernel_rfl) (fun _ _ => rfl) HS3 ?_
  simp only [Act.put, List.setIfInBounds_toArray, List.set_cons_zero, List.set_cons_succ]
  refine hk_call (i := 7) (oi := ⟨some 12, .call _, _, _, _, _⟩) (by kernel_rfl) rfl (by kernel_rfl) (by first | rfl | kernel_rfl) (HCT.out _ HS3) ?_
  rintro e w4 ⟨v, rfl, ho, hb⟩
  obtain ⟨A4, cA4, rfl, -⟩ := own_parts ho
  have HR4 := Lib.hid (Rd.of_row ho)
  clear ho
  have HS4 := HS3.on hb
  refine ⟨_, rfl, HS4, ?_⟩
  clear hb HS3
  simp only [Act.put, List.setIfInBounds_toArray, List.set_cons_zero, List.set_cons_succ]
  refine hk_call (i := 9) (oi := ⟨some 14, .call _, _, _, _, _⟩) (by kernel_rfl) rfl (by kernel_rfl) (by first | rfl | kernel_rfl) (HRT.out _ HS4) ?_
  rintro e w5 ⟨v, rfl, ho, hb⟩
  obtain ⟨A5, cA5, rfl, -⟩ := own_parts ho
  have HR5 := Lib.hid (Rd.of_row ho)
  have HR4b := Lib.hid ((HR4.out.below hb).mono (Below.size hb))
  clear HR4
  clear ho
  have HS5 := HS4.on hb
  refine ⟨_, rfl, HS5, ?_⟩
  clear hb HS4
  simp only [Act.put, List.setIfInBounds_toArray, List.set_cons_zero, List.set_cons_succ]
  refine hk_call (i := 10) (oi := ⟨some 15, .call _, _, _, _, _⟩) (by kernel_rfl) rfl (by kernel_rfl) (by first | rfl | kernel_rfl) (sameI_eq A4 A5 cA4 cA5 (tagsM s.b0 s.l) s.b0.length _ HTL.out (by omega) HR4b.out HR5.out) ?_
  rintro e w6 ⟨rfl, hb⟩
  have HS6 := HS5.on hb
  refine ⟨_, rfl, HS6, ?_⟩
  clear hb HS5
  simp only [Act.put, List.setIfInBounds_toArray, List.set_cons_zero, List.set_cons_succ]
  refine hk_val (i := 11) (oi := ⟨some 16, .pick _ _ _, _, _, _, _⟩) (.bool true) rfl (by kernel_rfl) (by kernel_rfl) (by kernel_rfl) (fun _ _ _ h => h) (by kernel_rfl) (fun _ _ => rfl) HS6 ?_
  simp only [Act.put, List.setIfInBounds_toArray, List.set_cons_zero, List.set_cons_succ]
  refine hk_val (i := 12) (oi := ⟨some 17, .move _, _, _, _, _⟩) (.bool true) rfl (by kernel_rfl) (by kernel_rfl) (by kernel_rfl) (fun _ _ _ h => h) (by kernel_rfl) (fun _ _ => rfl) HS6 ?_
  simp only [Act.put, List.setIfInBounds_toArray, List.set_cons_zero, List.set_cons_succ]
  refine hk_val (i := 13) (oi := ⟨some 18, .move _, _, _, _, _⟩) (.pointer (some ⟨p.g, 0, none⟩)) rfl (by kernel_rfl) (by kernel_rfl) (by kernel_rfl) (fun _ _ _ h => h) (by kernel_rfl) (fun _ _ => rfl) HS6 ?_
  simp only [Act.put, List.setIfInBounds_toArray, List.set_cons_zero, List.set_cons_succ]
  refine hk_val (i := 15) (oi := ⟨some 20, .move _, _, _, _, _⟩) (.pointer (some ⟨q.g, 0, none⟩)) rfl (by kernel_rfl) (by kernel_rfl) (by kernel_rfl) (fun _ _ _ h => h) (by kernel_rfl) (fun _ _ => rfl) HS6 ?_
  simp only [Act.put, List.setIfInBounds_toArray, List.set_cons_zero, List.set_cons_succ]
  refine hk_val (i := 16) (oi := ⟨some 21, .nilCheck _, _, _, _, _⟩) (.pointer (some ⟨q.g, 0, none⟩)) rfl (by kernel_rfl) (by kernel_rfl) (by kernel_rfl) (fun _ _ _ h => h) (by kernel_rfl) (fun _ _ => rfl) HS6 ?_
  simp only [Act.put, List.setIfInBounds_toArray, List.set_cons_zero, List.set_cons_succ]
  refine hk_val (i := 17) (oi := ⟨some 22, .fieldAddr _ _ _, _, _, _, _⟩) (.pointer (some ⟨q.g, 1, none⟩)) rfl (by kernel_rfl) (by kernel_rfl) (by kernel_rfl) (fun _ _ _ h => h) (by kernel_rfl) (fun _ _ => by kernel_rfl) HS6 ?_
  simp only [Act.put, List.setIfInBounds_toArray, List.set_cons_zero, List.set_cons_succ]
  refine hk_val (i := 18) (oi := ⟨some 23, .load _ _, _, _, _, _⟩) (.slice AL s.l.length cL) rfl (by kernel_rfl) (by kernel_rfl) (by kernel_rfl) (fun _ _ _ h => h) (by kernel_rfl) (fun x hx => ex_load rfl rfl (HLG.out x hx).1 (by kernel_rfl)) HS6 ?_
  simp only [Act.put, List.setIfInBounds_toArray, List.set_cons_zero, List.set_cons_succ]
  refine hk_call (i := 14) (oi := ⟨some 19, .call _, _, _, _, _⟩) (by kernel_rfl) rfl (by kernel_rfl) (by first | rfl | kernel_rfl) (HCL.out _ HS6) ?_
  rintro e w7 ⟨v, rfl, ho, hb⟩
  obtain ⟨A7, cA7, rfl, -⟩ := own_parts ho
  have HR7 := Lib.hid (Rd.of_row ho)
  clear ho
  have HS7 := HS6.on hb
  refine ⟨_, rfl, HS7, ?_⟩
  clear hb HS6
  simp only [Act.put, List.setIfInBounds_toArray, List.set_cons_zero, List.set_cons_succ]
  refine hk_call (i := 19) (oi := ⟨some 24, .call _, _, _, _, _⟩) (by kernel_rfl) rfl (by kernel_rfl) (by first | rfl | kernel_rfl) (sameW_c A7 AL cA7 cL s.l _ (by omega) HR7.out (HLG.out _ HS7).2) ?_
  rintro e w8 ⟨rfl, hb⟩
  have HS8 := HS7.on hb
  refine ⟨_, rfl, HS8, ?_⟩
  clear hb HS7
  simp only [Act.put, List.setIfInBounds_toArray, List.set_cons_zero, List.set_cons_succ]
  refine hk_val (i := 20) (oi := ⟨some 25, .pick _ _ _, _, _, _, _⟩) (.bool true) rfl (by kernel_rfl) (by kernel_rfl) (by kernel_rfl) (fun _ _ _ h => h) (by kernel_rfl) (fun _ _ => rfl) HS8 ?_
  simp only [Act.put, List.setIfInBounds_toArray, List.set_cons_zero, List.set_cons_succ]
  refine hk_val (i := 21) (oi := ⟨some 4, .assign _, _, _, _, _⟩) (.bool true) rfl (by kernel_rfl) (by kernel_rfl) (by kernel_rfl) (fun _ _ _ h => h) (by kernel_rfl) (fun _ _ => rfl) HS8 ?_
  simp only [Act.put, List.setIfInBounds_toArray, List.set_cons_zero, List.set_cons_succ]
  refine wpAnyH_done (by kernel_rfl) ?_ _
  go_wp2
  go_ret
  exact ⟨rfl, HS8.1⟩
end Go.Proofs.Yteoemjhhjnkkiaa
