/- GuessPlays: whatever a guess is trained with, it is the document's. -/
import Derived.Test.YtdcmpmmbmjaaiaaDoorGk
set_option maxRecDepth 100000
set_option linter.unusedVariables false
namespace Go.Proofs.YtdcmpmmbmjaaiaaDoor
open Go.RowKit

theorem take_len {l : List Wn} {k : Nat} (h : k ≤ l.length) : (l.take k).length = k := by rw [List.length_take]; omega
set_option maxHeartbeats 16000000 in
theorem plays14_walk (A : Option Addr) (cap : Nat) (l : List Wn) (i : Ins) (pc : Int) (W : World) (hl : l.length ≤ cap) (hcap : cap ≤ 9223372036854775807) (hw : Wwns l) (hi : I64 i.op) (hp : 0 ≤ pc ∧ pc ≤ 18446744073709551615) (hr : Rd W W.heap.size A (cellsWn l)) (hT : TabL W) :
    Calls Tryd.prog 3 #[.slice A l.length cap, insV i, .int .u64 pc] W fun e w' => e = .returned (.bool true) ∧ BW W w' := by
  have HAL := Lib.hid (fun x (hx : BW W x) => alive14_any x (hT.below hx))
  have HNW := Lib.hid new_c
  have HTR := Lib.hid (fun V (hV : BW W V) s (ok : GOk s) g (y : World) (hy : GX V s g y) (x : Wn) (hx : Wwn x) => train_c hy.at0 ok x hx.op hx.pc.1 hx.pc.2 (hT.below (BW.on hV hy.low)))
  have HTN := Lib.hid (fun (x : Wn) y => train_nil x.i x.pc x.next y)
  have HCO := Lib.hid (fun V s g (y : World) (hy : GX V s g y) (pc : Int) (hp : 0 ≤ pc ∧ pc ≤ 18446744073709551615) => counter_c hy.at0 pc hp.1 hp.2)
  have HNX := Lib.hid (fun V (hV : BW W V) s g (y : World) (hy : GX V s g y) (i : Ins) (hi : I64 i.op) (pc : Int) (hp : 0 ≤ pc ∧ pc ≤ 18446744073709551615) => next_c hy.at0 i hi pc hp.1 hp.2 (hT.below (BW.on hV hy.low)))
  have HRN := Lib.hid (fun (m : List Wn) n (hn : m.length = n) (hm : n ≤ 9223372036854775807) (hwm : Wwns m) y (hy : Rd y y.heap.size A (cellsWn m)) (i : Ins) (hi : I64 i.op) (pc : Int) (hp : 0 ≤ pc ∧ pc ≤ 18446744073709551615) => hn ▸ rnext_c m A cap (by omega) hwm i hi pc hp.1 hp.2 y hy)
  have HRC := Lib.hid (fun (m : List Wn) n (hn : m.length = n) (hm : n ≤ 9223372036854775807) (hwm : Wwns m) y (hy : Rd y y.heap.size A (cellsWn m)) (pc : Int) (hp : 0 ≤ pc ∧ pc ≤ 18446744073709551615) => hn ▸ rcounter_c m A cap (by omega) hwm pc hp.1 hp.2 y hy)
  have HN0 := Lib.hid (fun (y : World) (hy : BW W y) => next_nil i hi pc hp.1 hp.2 (hT.below hy))
  have HC0 := Lib.hid (fun y => counter_nil pc y)
  have HR0 := Lib.hid (fun (y : World) => rnext_c [] none 0 (by decide) (fun k hk => by cases hk) i hi pc hp.1 hp.2 y (.inl rfl))
  have HW := Lib.hid hw
  have HR := Lib.hid hr
  have HP := Lib.hid hp
  have HI := Lib.hid hi
  have HNV : nxtG (allG []) i pc = nxtG newG i pc := rfl
  have HNXI := Lib.hid (fun V (hV : BW W V) s g (y : World) (hy : GX V s g y) => HNX.out V hV s g y hy i hi pc hp)
  have HRNI := Lib.hid (fun (y : World) (hy : Rd y y.heap.size A (cellsWn l)) => HRN.out l l.length rfl (by omega) hw y hy i hi pc hp)
  rw [HNV] at HR0
  clear hw hr hT HNV hi hp
  obtain ⟨op, rd, rs1, rs2, imm, aq, rl, pred, succ⟩ := i
  unfold insV at HR0 HN0 HNXI HRNI ⊢
  simp only at HR0 HN0 HNXI HRNI ⊢
  generalize nxtG newG _ pc = nv0 at *
  have HV0 := Lib.hid (BW.new (Below.refl _ W) (.cells #[.int .i64 op, .int .i64 rd, .int .i64 rs1, .int .i64 rs2, .int .i64 imm, .bool aq, .bool rl, .int .i64 pred, .int .i64 succ] 24))
  have HK0 := Lib.hid (Blk.new #[.int .i64 op, .int .i64 rd, .int .i64 rs1, .int .i64 rs2, .int .i64 imm, .bool aq, .bool rl, .int .i64 pred, .int .i64 succ] 24 W)
  go_enter Tryd.func3, Tryd.ntmps3
  go_upto_region 1 with (fail)
  obtain ⟨p, hpp⟩ : ∃ p, W.heap.size = p := ⟨_, rfl⟩
  rw [hpp] at HK0 ⊢
  clear hpp
  generalize World.alloc W _ = V at *
  go_wp2_with (first
    | (go_at_call 5; refine (HAL.out _ HV0.out).mono ?_; rintro e w1 ⟨rfl, hb⟩; have HB1 : Hid (BW V w1) := hb; clear hb)
    | (go_at_call 6; refine (HNW.out _).mono ?_; rintro e w2 ⟨g, rfl, hg, hgl, hb⟩; have HX2 : Hid (GX V newG g w2) := ⟨hg, BW.on HB1.out hb, Nat.le_trans (Below.size HB1.out) hgl⟩; clear hg hb hgl))
  go_loopw [9] (fun j wx => ∃ k : Nat, k ≤ l.length ∧ k ≤ 60 ∧ j = .int .i64 (k : Int) ∧ Hid (GX V (allG (l.take k)) g wx)) (fun j _ => 60 - (intOf j).toNat)
  case atStart => exact ⟨0, by omega, by omega, rfl, HX2.out⟩
  case round =>
    obtain ⟨k, hk, hk6, rfl, HX⟩ := hrel
    clear HX2
    have HRV := Lib.hid (fun m y (hy : BW V y) => (rd_take HR.out m).below (BW.on HV0.out hy) |>.mono (Below.size (BW.on HV0.out hy)))
    have HWT := Lib.hid (fun m x (hx : x ∈ l.take m) => HW.out x (List.mem_of_mem_take hx))
    by_cases hc : k < l.length ∧ k < 60
    · obtain ⟨hlt, hlt6⟩ := hc
      have hltI : (k : Int) < (l.length : Int) := by omega
      have hlt6I : (k : Int) < 60 := by omega
      have hx := HW.out l[k] (List.getElem_mem hlt)
      have HX3 : Hid (∀ y y', GX V (allG (l.take k)) g y → GAt (trG (allG (l.take k)) l[k]) g y' → Fr [g] y y' → GX V (allG (l.take (k + 1))) g y') := fun y y' h0 hy hf => by rw [allG_next l hlt]; exact h0.put hf hy
      have HT := Lib.hid (fun y hy => HTR.out V HV0.out (allG (l.take k)) (allG_ok _) g y hy l[k] hx)
      have HTNK := Lib.hid (fun y => HTN.out l[k] y)
      have HNXK := Lib.hid (fun y hy => HNX.out V HV0.out (allG (l.take k)) g y hy l[k].i hx.op l[k].pc hx.pc)
      have HRNK := Lib.hid (fun y (hy : BW V y) => HRN.out (l.take k) k (take_len hk) (by omega) (HWT.out k) y (HRV.out k y hy) l[k].i hx.op l[k].pc hx.pc)
      have HCOK := Lib.hid (fun y hy => HCO.out V (allG (l.take (k + 1))) g y hy l[k].pc hx.pc)
      have HRCK := Lib.hid (fun y (hy : BW V y) => HRC.out (l.take (k + 1)) (k + 1) (take_len hlt) (by omega) (HWT.out (k + 1)) y (HRV.out (k + 1) y hy) l[k].pc hx.pc)
      obtain ⟨b, off, rfl, hb, hcs⟩ := rd_wn HR.out hlt
      have HCS := Lib.hid (fun x (hx : BW V x) j v hv => (Below.cell (BW.on HV0.out hx) (p := ⟨b, off + k * 11 + j, none⟩) hb).trans (hcs j v hv))
      clear hcs hx hb
      obtain ⟨s2, hs2⟩ : ∃ s2, allG (l.take (k + 1)) = s2 := ⟨_, rfl⟩
      rw [hs2] at HX3 HCOK HRCK
      have HE2 := Lib.hid hs2
      clear hs2
      generalize allG (l.take k) = s at *
      generalize l[k] = x at *
      obtain ⟨⟨xo, xrd, xr1, xr2, xi, xaq, xrl, xpr, xsu⟩, xp, nx⟩ := x
      unfold wnCells at HCS
      unfold insV at HT HTNK HNXK HRNK
      simp only at HCS HT HTNK HNXK HRNK HCOK HRCK
      generalize nxtG s _ xp = nv at *
      generalize s2.c (numG xp) = cv at *
      go_wp2_with (fail)
      refine wp_region_held (S := GX V s g) (by kernel_rfl) ?_
      change wpAnyH _ _ _ _ _ _ _ _ (World.drew _)
      have HS := HX.out.on (Below.drew (Below.refl _ _))
      clear HX
      generalize World.drew _ = w3 at *
      refine hk_val (i := 0) (oi := ⟨some 23, .move _, _, _, _, _⟩) (.pointer (some ⟨g, 0, none⟩)) rfl (by kernel_rfl) (by kernel_rfl) (by kernel_rfl) (fun _ _ _ h => h) (by kernel_rfl) (fun _ _ => rfl) HS ?_
      simp only [Act.put, List.setIfInBounds_toArray, List.set_cons_zero, List.set_cons_succ]
      refine hk_val (i := 1) (oi := ⟨some 24, .move _, _, _, _, _⟩) (.slice (some ⟨b, off, none⟩) l.length cap) rfl (by kernel_rfl) (by kernel_rfl) (by kernel_rfl) (fun _ _ _ h => h) (by kernel_rfl) (fun _ _ => rfl) HS ?_
      simp only [Act.put, List.setIfInBounds_toArray, List.set_cons_zero, List.set_cons_succ]
      refine hk_val (i := 2) (oi := ⟨some 25, .move _, _, _, _, _⟩) (.int .i64 (k : Int)) rfl (by kernel_rfl) (by kernel_rfl) (by kernel_rfl) (fun _ _ _ h => h) (by kernel_rfl) (fun _ _ => rfl) HS ?_
      simp only [Act.put, List.setIfInBounds_toArray, List.set_cons_zero, List.set_cons_succ]
      refine hk_val (i := 3) (oi := ⟨some 26, .indexAddr _ _ _, _, _, _, _⟩) (.pointer (some ⟨b, off + k * 11, none⟩)) rfl (by kernel_rfl) (by kernel_rfl) (by kernel_rfl) (fun _ _ _ h => h) (by kernel_rfl) (fun _ _ => Hz.ex_indexz rfl rfl rfl rfl hlt Tryd.underlying22 (by kernel_rfl)) HS ?_
      simp only [Act.put, List.setIfInBounds_toArray, List.set_cons_zero, List.set_cons_succ]
      refine hk_val (i := 4) (oi := ⟨some 27, .fieldAddr _ _ _, _, _, _, _⟩) (.pointer (some ⟨b, off + k * 11, none⟩)) rfl (by kernel_rfl) (by kernel_rfl) (by kernel_rfl) (fun _ _ _ h => h) (by kernel_rfl) (fun _ _ => by kernel_rfl) HS ?_
      simp only [Act.put, List.setIfInBounds_toArray, List.set_cons_zero, List.set_cons_succ]
      refine hk_val (i := 5) (oi := ⟨some 28, .load _ _, _, _, _, _⟩) (.agg #[.int .i64 xo, .int .i64 xrd, .int .i64 xr1, .int .i64 xr2, .int .i64 xi, .bool xaq, .bool xrl, .int .i64 xpr, .int .i64 xsu]) rfl (by kernel_rfl) (by kernel_rfl) (by kernel_rfl) (fun _ _ _ h => h) (by kernel_rfl) (fun x hx => Hz.ex_load_cells [.int .i64 xo, .int .i64 xrd, .int .i64 xr1, .int .i64 xr2, .int .i64 xi, .bool xaq, .bool xrl, .int .i64 xpr, .int .i64 xsu] rfl rfl (nine (HCS.out x hx.low)) Tryd.underlying24 rfl (by kernel_rfl)) HS ?_
      simp only [Act.put, List.setIfInBounds_toArray, List.set_cons_zero, List.set_cons_succ]
      refine hk_val (i := 6) (oi := ⟨some 29, .move _, _, _, _, _⟩) (.slice (some ⟨b, off, none⟩) l.length cap) rfl (by kernel_rfl) (by kernel_rfl) (by kernel_rfl) (fun _ _ _ h => h) (by kernel_rfl) (fun _ _ => rfl) HS ?_
      simp only [Act.put, List.setIfInBounds_toArray, List.set_cons_zero, List.set_cons_succ]
      refine hk_val (i := 7) (oi := ⟨some 30, .move _, _, _, _, _⟩) (.int .i64 (k : Int)) rfl (by kernel_rfl) (by kernel_rfl) (by kernel_rfl) (fun _ _ _ h => h) (by kernel_rfl) (fun _ _ => rfl) HS ?_
      simp only [Act.put, List.setIfInBounds_toArray, List.set_cons_zero, List.set_cons_succ]
      refine hk_val (i := 8) (oi := ⟨some 31, .indexAddr _ _ _, _, _, _, _⟩) (.pointer (some ⟨b, off + k * 11, none⟩)) rfl (by kernel_rfl) (by kernel_rfl) (by kernel_rfl) (fun _ _ _ h => h) (by kernel_rfl) (fun _ _ => Hz.ex_indexz rfl rfl rfl rfl hlt Tryd.underlying22 (by kernel_rfl)) HS ?_
      simp only [Act.put, List.setIfInBounds_toArray, List.set_cons_zero, List.set_cons_succ]
      refine hk_val (i := 9) (oi := ⟨some 32, .fieldAddr _ _ _, _, _, _, _⟩) (.pointer (some ⟨b, off + k * 11 + 9, none⟩)) rfl (by kernel_rfl) (by kernel_rfl) (by kernel_rfl) (fun _ _ _ h => h) (by kernel_rfl) (fun _ _ => by kernel_rfl) HS ?_
      simp only [Act.put, List.setIfInBounds_toArray, List.set_cons_zero, List.set_cons_succ]
      refine hk_val (i := 10) (oi := ⟨some 33, .load _ _, _, _, _, _⟩) (.int .u64 xp) rfl (by kernel_rfl) (by kernel_rfl) (by kernel_rfl) (fun _ _ _ h => h) (by kernel_rfl) (fun x hx => ex_load rfl rfl (HCS.out x hx.low 9 _ rfl) (by kernel_rfl)) HS ?_
      simp only [Act.put, List.setIfInBounds_toArray, List.set_cons_zero, List.set_cons_succ]
      refine hk_val (i := 12) (oi := ⟨some 35, .move _, _, _, _, _⟩) (.slice (some ⟨b, off, none⟩) l.length cap) rfl (by kernel_rfl) (by kernel_rfl) (by kernel_rfl) (fun _ _ _ h => h) (by kernel_rfl) (fun _ _ => rfl) HS ?_
      simp only [Act.put, List.setIfInBounds_toArray, List.set_cons_zero, List.set_cons_succ]
      refine hk_val (i := 13) (oi := ⟨some 36, .move _, _, _, _, _⟩) (.int .i64 (k : Int)) rfl (by kernel_rfl) (by kernel_rfl) (by kernel_rfl) (fun _ _ _ h => h) (by kernel_rfl) (fun _ _ => rfl) HS ?_
      simp only [Act.put, List.setIfInBounds_toArray, List.set_cons_zero, List.set_cons_succ]
      refine hk_val (i := 14) (oi := ⟨some 37, .slice _ _ _ _ _, _, _, _, _⟩) (.slice (some ⟨b, off, none⟩) k cap) rfl (by kernel_rfl) (by kernel_rfl) (by kernel_rfl) (fun _ _ _ h => h) (by kernel_rfl) (fun _ _ => Hz.ex_to (z := 11) (p := k) rfl rfl rfl (by omega) Tryd.underlying22 (by kernel_rfl)) HS ?_
      simp only [Act.put, List.setIfInBounds_toArray, List.set_cons_zero, List.set_cons_succ]
      refine hk_val (i := 15) (oi := ⟨some 38, .move _, _, _, _, _⟩) (.slice (some ⟨b, off, none⟩) l.length cap) rfl (by kernel_rfl) (by kernel_rfl) (by kernel_rfl) (fun _ _ _ h => h) (by kernel_rfl) (fun _ _ => rfl) HS ?_
      simp only [Act.put, List.setIfInBounds_toArray, List.set_cons_zero, List.set_cons_succ]
      refine hk_val (i := 16) (oi := ⟨some 39, .move _, _, _, _, _⟩) (.int .i64 (k : Int)) rfl (by kernel_rfl) (by kernel_rfl) (by kernel_rfl) (fun _ _ _ h => h) (by kernel_rfl) (fun _ _ => rfl) HS ?_
      simp only [Act.put, List.setIfInBounds_toArray, List.set_cons_zero, List.set_cons_succ]
      refine hk_val (i := 17) (oi := ⟨some 40, .indexAddr _ _ _, _, _, _, _⟩) (.pointer (some ⟨b, off + k * 11, none⟩)) rfl (by kernel_rfl) (by kernel_rfl) (by kernel_rfl) (fun _ _ _ h => h) (by kernel_rfl) (fun _ _ => Hz.ex_indexz rfl rfl rfl rfl hlt Tryd.underlying22 (by kernel_rfl)) HS ?_
      simp only [Act.put, List.setIfInBounds_toArray, List.set_cons_zero, List.set_cons_succ]
      refine hk_val (i := 18) (oi := ⟨some 41, .fieldAddr _ _ _, _, _, _, _⟩) (.pointer (some ⟨b, off + k * 11, none⟩)) rfl (by kernel_rfl) (by kernel_rfl) (by kernel_rfl) (fun _ _ _ h => h) (by kernel_rfl) (fun _ _ => by kernel_rfl) HS ?_
      simp only [Act.put, List.setIfInBounds_toArray, List.set_cons_zero, List.set_cons_succ]
      refine hk_val (i := 19) (oi := ⟨some 42, .load _ _, _, _, _, _⟩) (.agg #[.int .i64 xo, .int .i64 xrd, .int .i64 xr1, .int .i64 xr2, .int .i64 xi, .bool xaq, .bool xrl, .int .i64 xpr, .int .i64 xsu]) rfl (by kernel_rfl) (by kernel_rfl) (by kernel_rfl) (fun _ _ _ h => h) (by kernel_rfl) (fun x hx => Hz.ex_load_cells [.int .i64 xo, .int .i64 xrd, .int .i64 xr1, .int .i64 xr2, .int .i64 xi, .bool xaq, .bool xrl, .int .i64 xpr, .int .i64 xsu] rfl rfl (nine (HCS.out x hx.low)) Tryd.underlying24 rfl (by kernel_rfl)) HS ?_
      simp only [Act.put, List.setIfInBounds_toArray, List.set_cons_zero, List.set_cons_succ]
      refine hk_val (i := 20) (oi := ⟨some 43, .move _, _, _, _, _⟩) (.slice (some ⟨b, off, none⟩) l.length cap) rfl (by kernel_rfl) (by kernel_rfl) (by kernel_rfl) (fun _ _ _ h => h) (by kernel_rfl) (fun _ _ => rfl) HS ?_
      simp only [Act.put, List.setIfInBounds_toArray, List.set_cons_zero, List.set_cons_succ]
      refine hk_val (i := 21) (oi := ⟨some 44, .move _, _, _, _, _⟩) (.int .i64 (k : Int)) rfl (by kernel_rfl) (by kernel_rfl) (by kernel_rfl) (fun _ _ _ h => h) (by kernel_rfl) (fun _ _ => rfl) HS ?_
      simp only [Act.put, List.setIfInBounds_toArray, List.set_cons_zero, List.set_cons_succ]
      refine hk_val (i := 22) (oi := ⟨some 45, .indexAddr _ _ _, _, _, _, _⟩) (.pointer (some ⟨b, off + k * 11, none⟩)) rfl (by kernel_rfl) (by kernel_rfl) (by kernel_rfl) (fun _ _ _ h => h) (by kernel_rfl) (fun _ _ => Hz.ex_indexz rfl rfl rfl rfl hlt Tryd.underlying22 (by kernel_rfl)) HS ?_
      simp only [Act.put, List.setIfInBounds_toArray, List.set_cons_zero, List.set_cons_succ]
      refine hk_val (i := 23) (oi := ⟨some 46, .fieldAddr _ _ _, _, _, _, _⟩) (.pointer (some ⟨b, off + k * 11 + 9, none⟩)) rfl (by kernel_rfl) (by kernel_rfl) (by kernel_rfl) (fun _ _ _ h => h) (by kernel_rfl) (fun _ _ => by kernel_rfl) HS ?_
      simp only [Act.put, List.setIfInBounds_toArray, List.set_cons_zero, List.set_cons_succ]
      refine hk_val (i := 24) (oi := ⟨some 47, .load _ _, _, _, _, _⟩) (.int .u64 xp) rfl (by kernel_rfl) (by kernel_rfl) (by kernel_rfl) (fun _ _ _ h => h) (by kernel_rfl) (fun x hx => ex_load rfl rfl (HCS.out x hx.low 9 _ rfl) (by kernel_rfl)) HS ?_
      simp only [Act.put, List.setIfInBounds_toArray, List.set_cons_zero, List.set_cons_succ]
      refine hk_call (i := 11) (oi := ⟨some 34, .call _, _, _, _, _⟩) (by kernel_rfl) rfl (by kernel_rfl) (by first | rfl | kernel_rfl) (HNXK.out _ HS) ?_
      rintro e w4 ⟨rfl, hb⟩
      have HS4 := HS.on hb
      refine ⟨_, rfl, HS4, ?_⟩
      simp only [Act.put, List.setIfInBounds_toArray, List.set_cons_zero, List.set_cons_succ]
      refine hk_call (i := 25) (oi := ⟨some 48, .call _, _, _, _, _⟩) (by kernel_rfl) rfl (by kernel_rfl) (by first | rfl | kernel_rfl) (HRNK.out _ HS4.low) ?_
      rintro e w5 ⟨rfl, hb⟩
      have HS5 := HS4.on hb
      refine ⟨_, rfl, HS5, ?_⟩
      simp only [Act.put, List.setIfInBounds_toArray, List.set_cons_zero, List.set_cons_succ]
      refine hk_val (i := 26) (oi := ⟨some 49, .binOp _ _ _ _ _, _, _, _, _⟩) (.bool false) rfl (by kernel_rfl) (by kernel_rfl) (by kernel_rfl) (fun _ _ _ h => h) (by kernel_rfl) (fun _ _ => Hz.ex_neK rfl rfl rfl (by simp)) HS5 ?_
      simp only [Act.put, List.setIfInBounds_toArray, List.set_cons_zero, List.set_cons_succ]
      refine wpAnyH_done (by kernel_rfl) ?_ _
      go_wp2_with (fail)
      refine wp_region_P (S := GX V s g) (c := 16) (by kernel_rfl) ?_
      change wpAnyP _ _ _ _ _ _ _ _ _ (World.drew _)
      have HS6 := HS5.on (Below.drew (Below.refl _ _))
      generalize World.drew _ = w6 at *
      refine hp_val (i := 0) (oi := ⟨some 50, .move _, _, _, _, _⟩) [16] (.pointer (some ⟨g, 0, none⟩)) rfl (by kernel_rfl) (by kernel_rfl) (by kernel_rfl) (by kernel_rfl) (by kernel_rfl) rfl (fun _ _ _ h => h) (by kernel_rfl) (fun _ _ => rfl) HS6 ?_
      simp only [Act.put, List.setIfInBounds_toArray, List.set_cons_zero, List.set_cons_succ]
      refine hp_val (i := 1) (oi := ⟨some 51, .move _, _, _, _, _⟩) [3, 4, 5, 16] (.slice (some ⟨b, off, none⟩) l.length cap) rfl (by kernel_rfl) (by kernel_rfl) (by kernel_rfl) (by kernel_rfl) (by kernel_rfl) rfl (fun _ _ _ h => h) (by kernel_rfl) (fun _ _ => rfl) HS6 ?_
      simp only [Act.put, List.setIfInBounds_toArray, List.set_cons_zero, List.set_cons_succ]
      refine hp_val (i := 2) (oi := ⟨some 52, .move _, _, _, _, _⟩) [3, 4, 5, 16] (.int .i64 (k : Int)) rfl (by kernel_rfl) (by kernel_rfl) (by kernel_rfl) (by kernel_rfl) (by kernel_rfl) rfl (fun _ _ _ h => h) (by kernel_rfl) (fun _ _ => rfl) HS6 ?_
      simp only [Act.put, List.setIfInBounds_toArray, List.set_cons_zero, List.set_cons_succ]
      refine hp_val (i := 3) (oi := ⟨some 53, .indexAddr _ _ _, _, _, _, _⟩) [4, 5, 16] (.pointer (some ⟨b, off + k * 11, none⟩)) rfl (by kernel_rfl) (by kernel_rfl) (by kernel_rfl) (by kernel_rfl) (by kernel_rfl) rfl (fun _ _ _ h => h) (by kernel_rfl) (fun _ _ => Hz.ex_indexz rfl rfl rfl rfl hlt Tryd.underlying22 (by kernel_rfl)) HS6 ?_
      simp only [Act.put, List.setIfInBounds_toArray, List.set_cons_zero, List.set_cons_succ]
      refine hp_val (i := 4) (oi := ⟨some 54, .fieldAddr _ _ _, _, _, _, _⟩) [5, 16] (.pointer (some ⟨b, off + k * 11, none⟩)) rfl (by kernel_rfl) (by kernel_rfl) (by kernel_rfl) (by kernel_rfl) (by kernel_rfl) rfl (fun _ _ _ h => h) (by kernel_rfl) (fun _ _ => by kernel_rfl) HS6 ?_
      simp only [Act.put, List.setIfInBounds_toArray, List.set_cons_zero, List.set_cons_succ]
      refine hp_val (i := 5) (oi := ⟨some 55, .load _ _, _, _, _, _⟩) [16] (.agg #[.int .i64 xo, .int .i64 xrd, .int .i64 xr1, .int .i64 xr2, .int .i64 xi, .bool xaq, .bool xrl, .int .i64 xpr, .int .i64 xsu]) rfl (by kernel_rfl) (by kernel_rfl) (by kernel_rfl) (by kernel_rfl) (by kernel_rfl) rfl (fun _ _ _ h => h) (by kernel_rfl) (fun x hx => Hz.ex_load_cells [.int .i64 xo, .int .i64 xrd, .int .i64 xr1, .int .i64 xr2, .int .i64 xi, .bool xaq, .bool xrl, .int .i64 xpr, .int .i64 xsu] rfl rfl (nine (HCS.out x hx.low)) Tryd.underlying24 rfl (by kernel_rfl)) HS6 ?_
      simp only [Act.put, List.setIfInBounds_toArray, List.set_cons_zero, List.set_cons_succ]
      refine hp_val (i := 6) (oi := ⟨some 56, .move _, _, _, _, _⟩) [8, 9, 10, 16] (.slice (some ⟨b, off, none⟩) l.length cap) rfl (by kernel_rfl) (by kernel_rfl) (by kernel_rfl) (by kernel_rfl) (by kernel_rfl) rfl (fun _ _ _ h => h) (by kernel_rfl) (fun _ _ => rfl) HS6 ?_
      simp only [Act.put, List.setIfInBounds_toArray, List.set_cons_zero, List.set_cons_succ]
      refine hp_val (i := 7) (oi := ⟨some 57, .move _, _, _, _, _⟩) [8, 9, 10, 16] (.int .i64 (k : Int)) rfl (by kernel_rfl) (by kernel_rfl) (by kernel_rfl) (by kernel_rfl) (by kernel_rfl) rfl (fun _ _ _ h => h) (by kernel_rfl) (fun _ _ => rfl) HS6 ?_
      simp only [Act.put, List.setIfInBounds_toArray, List.set_cons_zero, List.set_cons_succ]
      refine hp_val (i := 8) (oi := ⟨some 58, .indexAddr _ _ _, _, _, _, _⟩) [9, 10, 16] (.pointer (some ⟨b, off + k * 11, none⟩)) rfl (by kernel_rfl) (by kernel_rfl) (by kernel_rfl) (by kernel_rfl) (by kernel_rfl) rfl (fun _ _ _ h => h) (by kernel_rfl) (fun _ _ => Hz.ex_indexz rfl rfl rfl rfl hlt Tryd.underlying22 (by kernel_rfl)) HS6 ?_
      simp only [Act.put, List.setIfInBounds_toArray, List.set_cons_zero, List.set_cons_succ]
      refine hp_val (i := 9) (oi := ⟨some 59, .fieldAddr _ _ _, _, _, _, _⟩) [10, 16] (.pointer (some ⟨b, off + k * 11 + 9, none⟩)) rfl (by kernel_rfl) (by kernel_rfl) (by kernel_rfl) (by kernel_rfl) (by kernel_rfl) rfl (fun _ _ _ h => h) (by kernel_rfl) (fun _ _ => by kernel_rfl) HS6 ?_
      simp only [Act.put, List.setIfInBounds_toArray, List.set_cons_zero, List.set_cons_succ]
      refine hp_val (i := 10) (oi := ⟨some 60, .load _ _, _, _, _, _⟩) [16] (.int .u64 xp) rfl (by kernel_rfl) (by kernel_rfl) (by kernel_rfl) (by kernel_rfl) (by kernel_rfl) rfl (fun _ _ _ h => h) (by kernel_rfl) (fun x hx => ex_load rfl rfl (HCS.out x hx.low 9 _ rfl) (by kernel_rfl)) HS6 ?_
      simp only [Act.put, List.setIfInBounds_toArray, List.set_cons_zero, List.set_cons_succ]
      refine hp_val (i := 11) (oi := ⟨some 61, .move _, _, _, _, _⟩) [13, 14, 15, 16] (.slice (some ⟨b, off, none⟩) l.length cap) rfl (by kernel_rfl) (by kernel_rfl) (by kernel_rfl) (by kernel_rfl) (by kernel_rfl) rfl (fun _ _ _ h => h) (by kernel_rfl) (fun _ _ => rfl) HS6 ?_
      simp only [Act.put, List.setIfInBounds_toArray, List.set_cons_zero, List.set_cons_succ]
      refine hp_val (i := 12) (oi := ⟨some 62, .move _, _, _, _, _⟩) [13, 14, 15, 16] (.int .i64 (k : Int)) rfl (by kernel_rfl) (by kernel_rfl) (by kernel_rfl) (by kernel_rfl) (by kernel_rfl) rfl (fun _ _ _ h => h) (by kernel_rfl) (fun _ _ => rfl) HS6 ?_
      simp only [Act.put, List.setIfInBounds_toArray, List.set_cons_zero, List.set_cons_succ]
      refine hp_val (i := 13) (oi := ⟨some 63, .indexAddr _ _ _, _, _, _, _⟩) [14, 15, 16] (.pointer (some ⟨b, off + k * 11, none⟩)) rfl (by kernel_rfl) (by kernel_rfl) (by kernel_rfl) (by kernel_rfl) (by kernel_rfl) rfl (fun _ _ _ h => h) (by kernel_rfl) (fun _ _ => Hz.ex_indexz rfl rfl rfl rfl hlt Tryd.underlying22 (by kernel_rfl)) HS6 ?_
      simp only [Act.put, List.setIfInBounds_toArray, List.set_cons_zero, List.set_cons_succ]
      refine hp_val (i := 14) (oi := ⟨some 64, .fieldAddr _ _ _, _, _, _, _⟩) [15, 16] (.pointer (some ⟨b, off + k * 11 + 10, none⟩)) rfl (by kernel_rfl) (by kernel_rfl) (by kernel_rfl) (by kernel_rfl) (by kernel_rfl) rfl (fun _ _ _ h => h) (by kernel_rfl) (fun _ _ => by kernel_rfl) HS6 ?_
      simp only [Act.put, List.setIfInBounds_toArray, List.set_cons_zero, List.set_cons_succ]
      refine hp_val (i := 15) (oi := ⟨some 65, .load _ _, _, _, _, _⟩) [16] (.int .u64 nx) rfl (by kernel_rfl) (by kernel_rfl) (by kernel_rfl) (by kernel_rfl) (by kernel_rfl) rfl (fun _ _ _ h => h) (by kernel_rfl) (fun x hx => ex_load rfl rfl (HCS.out x hx.low 10 _ rfl) (by kernel_rfl)) HS6 ?_
      simp only [Act.put, List.setIfInBounds_toArray, List.set_cons_zero, List.set_cons_succ]
      refine hp_last (i := 16) (oi := ⟨some 66, .call _, _, _, _, _⟩) (by kernel_rfl) rfl (by kernel_rfl) (by kernel_rfl) ?_
      refine Hz.wp_call (by first | rfl | kernel_rfl) (HT.out _ HS6) ?_
      rintro e w7 ⟨rfl, hg, hf⟩
      have HX7 := HX3.out _ _ HS6 hg hf
      clear hg hf HX3
      refine ⟨_, rfl, ?_⟩
      simp only [Act.put, List.setIfInBounds_toArray, List.set_cons_zero, List.set_cons_succ]
      refine wpAnyH_done (by kernel_rfl) ?_ _
      go_wp2_with (fail)
      refine wp_region_held (S := GX V s2 g) (by kernel_rfl) ?_
      change wpAnyH _ _ _ _ _ _ _ _ (World.drew _)
      have HS8 := HX7.on (Below.drew (Below.refl _ _))
      generalize World.drew _ = w8 at *
      refine hk_val (i := 0) (oi := ⟨some 67, .move _, _, _, _, _⟩) (.pointer none) rfl (by kernel_rfl) (by kernel_rfl) (by kernel_rfl) (fun _ _ _ h => h) (by kernel_rfl) (fun _ _ => rfl) HS8 ?_
      simp only [Act.put, List.setIfInBounds_toArray, List.set_cons_zero, List.set_cons_succ]
      refine hk_val (i := 1) (oi := ⟨some 68, .move _, _, _, _, _⟩) (.slice (some ⟨b, off, none⟩) l.length cap) rfl (by kernel_rfl) (by kernel_rfl) (by kernel_rfl) (fun _ _ _ h => h) (by kernel_rfl) (fun _ _ => rfl) HS8 ?_
      simp only [Act.put, List.setIfInBounds_toArray, List.set_cons_zero, List.set_cons_succ]
      refine hk_val (i := 2) (oi := ⟨some 69, .move _, _, _, _, _⟩) (.int .i64 (k : Int)) rfl (by kernel_rfl) (by kernel_rfl) (by kernel_rfl) (fun _ _ _ h => h) (by kernel_rfl) (fun _ _ => rfl) HS8 ?_
      simp only [Act.put, List.setIfInBounds_toArray, List.set_cons_zero, List.set_cons_succ]
      refine hk_val (i := 3) (oi := ⟨some 70, .indexAddr _ _ _, _, _, _, _⟩) (.pointer (some ⟨b, off + k * 11, none⟩)) rfl (by kernel_rfl) (by kernel_rfl) (by kernel_rfl) (fun _ _ _ h => h) (by kernel_rfl) (fun _ _ => Hz.ex_indexz rfl rfl rfl rfl hlt Tryd.underlying22 (by kernel_rfl)) HS8 ?_
      simp only [Act.put, List.setIfInBounds_toArray, List.set_cons_zero, List.set_cons_succ]
      refine hk_val (i := 4) (oi := ⟨some 71, .fieldAddr _ _ _, _, _, _, _⟩) (.pointer (some ⟨b, off + k * 11, none⟩)) rfl (by kernel_rfl) (by kernel_rfl) (by kernel_rfl) (fun _ _ _ h => h) (by kernel_rfl) (fun _ _ => by kernel_rfl) HS8 ?_
      simp only [Act.put, List.setIfInBounds_toArray, List.set_cons_zero, List.set_cons_succ]
      refine hk_val (i := 5) (oi := ⟨some 72, .load _ _, _, _, _, _⟩) (.agg #[.int .i64 xo, .int .i64 xrd, .int .i64 xr1, .int .i64 xr2, .int .i64 xi, .bool xaq, .bool xrl, .int .i64 xpr, .int .i64 xsu]) rfl (by kernel_rfl) (by kernel_rfl) (by kernel_rfl) (fun _ _ _ h => h) (by kernel_rfl) (fun x hx => Hz.ex_load_cells [.int .i64 xo, .int .i64 xrd, .int .i64 xr1, .int .i64 xr2, .int .i64 xi, .bool xaq, .bool xrl, .int .i64 xpr, .int .i64 xsu] rfl rfl (nine (HCS.out x hx.low)) Tryd.underlying24 rfl (by kernel_rfl)) HS8 ?_
      simp only [Act.put, List.setIfInBounds_toArray, List.set_cons_zero, List.set_cons_succ]
      refine hk_val (i := 6) (oi := ⟨some 73, .move _, _, _, _, _⟩) (.slice (some ⟨b, off, none⟩) l.length cap) rfl (by kernel_rfl) (by kernel_rfl) (by kernel_rfl) (fun _ _ _ h => h) (by kernel_rfl) (fun _ _ => rfl) HS8 ?_
      simp only [Act.put, List.setIfInBounds_toArray, List.set_cons_zero, List.set_cons_succ]
      refine hk_val (i := 7) (oi := ⟨some 74, .move _, _, _, _, _⟩) (.int .i64 (k : Int)) rfl (by kernel_rfl) (by kernel_rfl) (by kernel_rfl) (fun _ _ _ h => h) (by kernel_rfl) (fun _ _ => rfl) HS8 ?_
      simp only [Act.put, List.setIfInBounds_toArray, List.set_cons_zero, List.set_cons_succ]
      refine hk_val (i := 8) (oi := ⟨some 75, .indexAddr _ _ _, _, _, _, _⟩) (.pointer (some ⟨b, off + k * 11, none⟩)) rfl (by kernel_rfl) (by kernel_rfl) (by kernel_rfl) (fun _ _ _ h => h) (by kernel_rfl) (fun _ _ => Hz.ex_indexz rfl rfl rfl rfl hlt Tryd.underlying22 (by kernel_rfl)) HS8 ?_
      simp only [Act.put, List.setIfInBounds_toArray, List.set_cons_zero, List.set_cons_succ]
      refine hk_val (i := 9) (oi := ⟨some 76, .fieldAddr _ _ _, _, _, _, _⟩) (.pointer (some ⟨b, off + k * 11 + 9, none⟩)) rfl (by kernel_rfl) (by kernel_rfl) (by kernel_rfl) (fun _ _ _ h => h) (by kernel_rfl) (fun _ _ => by kernel_rfl) HS8 ?_
      simp only [Act.put, List.setIfInBounds_toArray, List.set_cons_zero, List.set_cons_succ]
      refine hk_val (i := 10) (oi := ⟨some 77, .load _ _, _, _, _, _⟩) (.int .u64 xp) rfl (by kernel_rfl) (by kernel_rfl) (by kernel_rfl) (fun _ _ _ h => h) (by kernel_rfl) (fun x hx => ex_load rfl rfl (HCS.out x hx.low 9 _ rfl) (by kernel_rfl)) HS8 ?_
      simp only [Act.put, List.setIfInBounds_toArray, List.set_cons_zero, List.set_cons_succ]
      refine hk_val (i := 11) (oi := ⟨some 78, .move _, _, _, _, _⟩) (.slice (some ⟨b, off, none⟩) l.length cap) rfl (by kernel_rfl) (by kernel_rfl) (by kernel_rfl) (fun _ _ _ h => h) (by kernel_rfl) (fun _ _ => rfl) HS8 ?_
      simp only [Act.put, List.setIfInBounds_toArray, List.set_cons_zero, List.set_cons_succ]
      refine hk_val (i := 12) (oi := ⟨some 79, .move _, _, _, _, _⟩) (.int .i64 (k : Int)) rfl (by kernel_rfl) (by kernel_rfl) (by kernel_rfl) (fun _ _ _ h => h) (by kernel_rfl) (fun _ _ => rfl) HS8 ?_
      simp only [Act.put, List.setIfInBounds_toArray, List.set_cons_zero, List.set_cons_succ]
      refine hk_val (i := 13) (oi := ⟨some 80, .indexAddr _ _ _, _, _, _, _⟩) (.pointer (some ⟨b, off + k * 11, none⟩)) rfl (by kernel_rfl) (by kernel_rfl) (by kernel_rfl) (fun _ _ _ h => h) (by kernel_rfl) (fun _ _ => Hz.ex_indexz rfl rfl rfl rfl hlt Tryd.underlying22 (by kernel_rfl)) HS8 ?_
      simp only [Act.put, List.setIfInBounds_toArray, List.set_cons_zero, List.set_cons_succ]
      refine hk_val (i := 14) (oi := ⟨some 81, .fieldAddr _ _ _, _, _, _, _⟩) (.pointer (some ⟨b, off + k * 11 + 10, none⟩)) rfl (by kernel_rfl) (by kernel_rfl) (by kernel_rfl) (fun _ _ _ h => h) (by kernel_rfl) (fun _ _ => by kernel_rfl) HS8 ?_
      simp only [Act.put, List.setIfInBounds_toArray, List.set_cons_zero, List.set_cons_succ]
      refine hk_val (i := 15) (oi := ⟨some 82, .load _ _, _, _, _, _⟩) (.int .u64 nx) rfl (by kernel_rfl) (by kernel_rfl) (by kernel_rfl) (fun _ _ _ h => h) (by kernel_rfl) (fun x hx => ex_load rfl rfl (HCS.out x hx.low 10 _ rfl) (by kernel_rfl)) HS8 ?_
      simp only [Act.put, List.setIfInBounds_toArray, List.set_cons_zero, List.set_cons_succ]
      refine hk_call (i := 16) (oi := ⟨some 83, .call _, _, _, _, _⟩) (by kernel_rfl) rfl (by kernel_rfl) (by first | rfl | kernel_rfl) (HTNK.out _) ?_
      rintro e w9 ⟨rfl, hb⟩
      have HS9 := HS8.on hb
      refine ⟨_, rfl, HS9, ?_⟩
      simp only [Act.put, List.setIfInBounds_toArray, List.set_cons_zero, List.set_cons_succ]
      refine wpAnyH_done (by kernel_rfl) ?_ _
      go_wp2_with (fail)
      refine wp_region_held (S := GX V s2 g) (by kernel_rfl) ?_
      change wpAnyH _ _ _ _ _ _ _ _ (World.drew _)
      have HS10 := HS9.on (Below.drew (Below.refl _ _))
      generalize World.drew _ = w10 at *
      refine hk_val (i := 0) (oi := ⟨some 84, .move _, _, _, _, _⟩) (.pointer (some ⟨g, 0, none⟩)) rfl (by kernel_rfl) (by kernel_rfl) (by kernel_rfl) (fun _ _ _ h => h) (by kernel_rfl) (fun _ _ => rfl) HS10 ?_
      simp only [Act.put, List.setIfInBounds_toArray, List.set_cons_zero, List.set_cons_succ]
      refine hk_val (i := 1) (oi := ⟨some 85, .move _, _, _, _, _⟩) (.slice (some ⟨b, off, none⟩) l.length cap) rfl (by kernel_rfl) (by kernel_rfl) (by kernel_rfl) (fun _ _ _ h => h) (by kernel_rfl) (fun _ _ => rfl) HS10 ?_
      simp only [Act.put, List.setIfInBounds_toArray, List.set_cons_zero, List.set_cons_succ]
      refine hk_val (i := 2) (oi := ⟨some 86, .move _, _, _, _, _⟩) (.int .i64 (k : Int)) rfl (by kernel_rfl) (by kernel_rfl) (by kernel_rfl) (fun _ _ _ h => h) (by kernel_rfl) (fun _ _ => rfl) HS10 ?_
      simp only [Act.put, List.setIfInBounds_toArray, List.set_cons_zero, List.set_cons_succ]
      refine hk_val (i := 3) (oi := ⟨some 87, .indexAddr _ _ _, _, _, _, _⟩) (.pointer (some ⟨b, off + k * 11, none⟩)) rfl (by kernel_rfl) (by kernel_rfl) (by kernel_rfl) (fun _ _ _ h => h) (by kernel_rfl) (fun _ _ => Hz.ex_indexz rfl rfl rfl rfl hlt Tryd.underlying22 (by kernel_rfl)) HS10 ?_
      simp only [Act.put, List.setIfInBounds_toArray, List.set_cons_zero, List.set_cons_succ]
      refine hk_val (i := 4) (oi := ⟨some 88, .fieldAddr _ _ _, _, _, _, _⟩) (.pointer (some ⟨b, off + k * 11 + 9, none⟩)) rfl (by kernel_rfl) (by kernel_rfl) (by kernel_rfl) (fun _ _ _ h => h) (by kernel_rfl) (fun _ _ => by kernel_rfl) HS10 ?_
      simp only [Act.put, List.setIfInBounds_toArray, List.set_cons_zero, List.set_cons_succ]
      refine hk_val (i := 5) (oi := ⟨some 89, .load _ _, _, _, _, _⟩) (.int .u64 xp) rfl (by kernel_rfl) (by kernel_rfl) (by kernel_rfl) (fun _ _ _ h => h) (by kernel_rfl) (fun x hx => ex_load rfl rfl (HCS.out x hx.low 9 _ rfl) (by kernel_rfl)) HS10 ?_
      simp only [Act.put, List.setIfInBounds_toArray, List.set_cons_zero, List.set_cons_succ]
      refine hk_val (i := 7) (oi := ⟨some 91, .move _, _, _, _, _⟩) (.slice (some ⟨b, off, none⟩) l.length cap) rfl (by kernel_rfl) (by kernel_rfl) (by kernel_rfl) (fun _ _ _ h => h) (by kernel_rfl) (fun _ _ => rfl) HS10 ?_
      simp only [Act.put, List.setIfInBounds_toArray, List.set_cons_zero, List.set_cons_succ]
      refine hk_val (i := 8) (oi := ⟨some 92, .move _, _, _, _, _⟩) (.int .i64 (k : Int)) rfl (by kernel_rfl) (by kernel_rfl) (by kernel_rfl) (fun _ _ _ h => h) (by kernel_rfl) (fun _ _ => rfl) HS10 ?_
      simp only [Act.put, List.setIfInBounds_toArray, List.set_cons_zero, List.set_cons_succ]
      refine hk_val (i := 9) (oi := ⟨some 93, .binOp _ _ _ _ _, _, _, _, _⟩) (.int .i64 ((k : Int) + 1)) rfl (by kernel_rfl) (by kernel_rfl) (by kernel_rfl) (fun _ _ _ h => h) (by kernel_rfl) (fun _ _ => Hz.ex_addI rfl rfl rfl (by omega)) HS10 ?_
      simp only [Act.put, List.setIfInBounds_toArray, List.set_cons_zero, List.set_cons_succ]
      refine hk_val (i := 10) (oi := ⟨some 94, .slice _ _ _ _ _, _, _, _, _⟩) (.slice (some ⟨b, off, none⟩) (k + 1) cap) rfl (by kernel_rfl) (by kernel_rfl) (by kernel_rfl) (fun _ _ _ h => h) (by kernel_rfl) (fun _ _ => Hz.ex_to (z := 11) (p := (k + 1)) rfl rfl rfl (by omega) Tryd.underlying22 (by kernel_rfl)) HS10 ?_
      simp only [Act.put, List.setIfInBounds_toArray, List.set_cons_zero, List.set_cons_succ]
      refine hk_val (i := 11) (oi := ⟨some 95, .move _, _, _, _, _⟩) (.slice (some ⟨b, off, none⟩) l.length cap) rfl (by kernel_rfl) (by kernel_rfl) (by kernel_rfl) (fun _ _ _ h => h) (by kernel_rfl) (fun _ _ => rfl) HS10 ?_
      simp only [Act.put, List.setIfInBounds_toArray, List.set_cons_zero, List.set_cons_succ]
      refine hk_val (i := 12) (oi := ⟨some 96, .move _, _, _, _, _⟩) (.int .i64 (k : Int)) rfl (by kernel_rfl) (by kernel_rfl) (by kernel_rfl) (fun _ _ _ h => h) (by kernel_rfl) (fun _ _ => rfl) HS10 ?_
      simp only [Act.put, List.setIfInBounds_toArray, List.set_cons_zero, List.set_cons_succ]
      refine hk_val (i := 13) (oi := ⟨some 97, .indexAddr _ _ _, _, _, _, _⟩) (.pointer (some ⟨b, off + k * 11, none⟩)) rfl (by kernel_rfl) (by kernel_rfl) (by kernel_rfl) (fun _ _ _ h => h) (by kernel_rfl) (fun _ _ => Hz.ex_indexz rfl rfl rfl rfl hlt Tryd.underlying22 (by kernel_rfl)) HS10 ?_
      simp only [Act.put, List.setIfInBounds_toArray, List.set_cons_zero, List.set_cons_succ]
      refine hk_val (i := 14) (oi := ⟨some 98, .fieldAddr _ _ _, _, _, _, _⟩) (.pointer (some ⟨b, off + k * 11 + 9, none⟩)) rfl (by kernel_rfl) (by kernel_rfl) (by kernel_rfl) (fun _ _ _ h => h) (by kernel_rfl) (fun _ _ => by kernel_rfl) HS10 ?_
      simp only [Act.put, List.setIfInBounds_toArray, List.set_cons_zero, List.set_cons_succ]
      refine hk_val (i := 15) (oi := ⟨some 99, .load _ _, _, _, _, _⟩) (.int .u64 xp) rfl (by kernel_rfl) (by kernel_rfl) (by kernel_rfl) (fun _ _ _ h => h) (by kernel_rfl) (fun x hx => ex_load rfl rfl (HCS.out x hx.low 9 _ rfl) (by kernel_rfl)) HS10 ?_
      simp only [Act.put, List.setIfInBounds_toArray, List.set_cons_zero, List.set_cons_succ]
      refine hk_call (i := 6) (oi := ⟨some 90, .call _, _, _, _, _⟩) (by kernel_rfl) rfl (by kernel_rfl) (by first | rfl | kernel_rfl) (HCOK.out _ HS10) ?_
      rintro e w11 ⟨rfl, n11, rfl⟩
      have HS11 := HS10.drewN n11
      refine ⟨_, rfl, HS11, ?_⟩
      simp only [Act.put, List.setIfInBounds_toArray, List.set_cons_zero, List.set_cons_succ]
      refine hk_call (i := 16) (oi := ⟨some 100, .call _, _, _, _, _⟩) (by kernel_rfl) rfl (by kernel_rfl) (by first | rfl | kernel_rfl) (HRCK.out _ HS11.low) ?_
      rintro e w12 ⟨rfl, hb⟩
      have HS12 := HS11.on hb
      refine ⟨_, rfl, HS12, ?_⟩
      simp only [Act.put, List.setIfInBounds_toArray, List.set_cons_zero, List.set_cons_succ]
      refine hk_val (i := 17) (oi := ⟨some 101, .binOp _ _ _ _ _, _, _, _, _⟩) (.bool false) rfl (by kernel_rfl) (by kernel_rfl) (by kernel_rfl) (fun _ _ _ h => h) (by kernel_rfl) (fun _ _ => Hz.ex_neK rfl rfl rfl (by simp)) HS12 ?_
      simp only [Act.put, List.setIfInBounds_toArray, List.set_cons_zero, List.set_cons_succ]
      refine wpAnyH_done (by kernel_rfl) ?_ _
      go_wp2
      go_roundw
      case rel => exact ⟨k + 1, by omega, by omega, by first | rfl | go_num, by rw [HE2.out]; exact HS12⟩
      case measure => simp [intOf]; omega
    · have HXL : Hid (¬ 60 < l.length → GX V (allG l) g wr) := fun h => by
        obtain rfl : k = l.length := by omega
        have := HX.out
        rwa [List.take_length] at this
      have HNXL := Lib.hid (fun y hy => HNXI.out V HV0.out (allG l) g y hy)
      have HCOL := Lib.hid (fun y hy => HCO.out V (allG l) g y hy pc HP.out)
      have HRNL := Lib.hid (fun y (hy : BW V y) => HRNI.out y ((HR.out.below (BW.on HV0.out hy)).mono (Below.size (BW.on HV0.out hy))))
      have HRCL := Lib.hid (fun y (hy : BW V y) => HRC.out l l.length rfl (by omega) HW.out y ((HR.out.below (BW.on HV0.out hy)).mono (Below.size (BW.on HV0.out hy))) pc HP.out)
      clear HNXI HRNI
      generalize nxtG (allG l) _ pc = nv at *
      generalize (allG l).c (numG pc) = cv at *
      generalize allG l = sL at *
      generalize allG (l.take k) = s at *
      have hno : ¬ ((k : Int) < (l.length : Int)) ∨ ¬ ((k : Int) < 60) := by omega
      by_cases hltI : (k : Int) < (l.length : Int)
      · have h60 : ¬ (k : Int) < 60 := by omega
        have h60l : (60 : Int) < (l.length : Int) := by omega
        clear HXL HNXL HCOL HRNL HRCL hno
        go_wp2_with (fail)
        refine wp_region_held (S := GX V s g) (by kernel_rfl) ?_
        change wpAnyH _ _ _ _ _ _ _ _ (World.drew _)
        have HS := HX.out.on (Below.drew (Below.refl _ _))
        generalize World.drew _ = w3 at *
        refine hk_val (i := 0) (oi := ⟨some 102, .move _, _, _, _, _⟩) (.pointer none) rfl (by kernel_rfl) (by kernel_rfl) (by kernel_rfl) (fun _ _ _ h => h) (by kernel_rfl) (fun _ _ => rfl) HS ?_
        simp only [Act.put, List.setIfInBounds_toArray, List.set_cons_zero, List.set_cons_succ]
        refine hk_val (i := 1) (oi := ⟨some 103, .move _, _, _, _, _⟩) (.int .u64 pc) rfl (by kernel_rfl) (by kernel_rfl) (by kernel_rfl) (fun _ _ _ h => h) (by kernel_rfl) (fun _ _ => rfl) HS ?_
        simp only [Act.put, List.setIfInBounds_toArray, List.set_cons_zero, List.set_cons_succ]
        refine hk_call (i := 2) (oi := ⟨some 104, .call _, _, _, _, _⟩) (by kernel_rfl) rfl (by kernel_rfl) (by first | rfl | kernel_rfl) (HC0.out _) ?_
        rintro e w4 ⟨rfl, rfl⟩
        have HS4 := HS
        refine ⟨_, rfl, HS4, ?_⟩
        simp only [Act.put, List.setIfInBounds_toArray, List.set_cons_zero, List.set_cons_succ]
        refine hk_val (i := 3) (oi := ⟨some 105, .binOp _ _ _ _ _, _, _, _, _⟩) (.bool false) rfl (by kernel_rfl) (by kernel_rfl) (by kernel_rfl) (fun _ _ _ h => h) (by kernel_rfl) (fun _ _ => Hz.ex_neK rfl rfl rfl (by simp)) HS4 ?_
        simp only [Act.put, List.setIfInBounds_toArray, List.set_cons_zero, List.set_cons_succ]
        refine hk_val (i := 4) (oi := ⟨some 106, .move _, _, _, _, _⟩) (.bool false) rfl (by kernel_rfl) (by kernel_rfl) (by kernel_rfl) (fun _ _ _ h => h) (by kernel_rfl) (fun _ _ => rfl) HS4 ?_
        simp only [Act.put, List.setIfInBounds_toArray, List.set_cons_zero, List.set_cons_succ]
        refine hk_val (i := 5) (oi := ⟨some 107, .move _, _, _, _, _⟩) (.pointer none) rfl (by kernel_rfl) (by kernel_rfl) (by kernel_rfl) (fun _ _ _ h => h) (by kernel_rfl) (fun _ _ => rfl) HS4 ?_
        simp only [Act.put, List.setIfInBounds_toArray, List.set_cons_zero, List.set_cons_succ]
        refine hk_val (i := 6) (oi := ⟨some 108, .load _ _, _, _, _, _⟩) (.agg #[.int .i64 op, .int .i64 rd, .int .i64 rs1, .int .i64 rs2, .int .i64 imm, .bool aq, .bool rl, .int .i64 pred, .int .i64 succ]) rfl (by kernel_rfl) (by kernel_rfl) (by kernel_rfl) (fun _ _ _ h => h) (by kernel_rfl) (fun x hx => Hz.ex_load_all 24 (.tmp 4) rfl rfl (HK0.out.on hx.low) Tryd.underlying24 rfl (by kernel_rfl)) HS4 ?_
        simp only [Act.put, List.setIfInBounds_toArray, List.set_cons_zero, List.set_cons_succ]
        refine hk_val (i := 7) (oi := ⟨some 109, .move _, _, _, _, _⟩) (.int .u64 pc) rfl (by kernel_rfl) (by kernel_rfl) (by kernel_rfl) (fun _ _ _ h => h) (by kernel_rfl) (fun _ _ => rfl) HS4 ?_
        simp only [Act.put, List.setIfInBounds_toArray, List.set_cons_zero, List.set_cons_succ]
        refine hk_val (i := 9) (oi := ⟨some 111, .load _ _, _, _, _, _⟩) (.agg #[.int .i64 op, .int .i64 rd, .int .i64 rs1, .int .i64 rs2, .int .i64 imm, .bool aq, .bool rl, .int .i64 pred, .int .i64 succ]) rfl (by kernel_rfl) (by kernel_rfl) (by kernel_rfl) (fun _ _ _ h => h) (by kernel_rfl) (fun x hx => Hz.ex_load_all 24 (.tmp 4) rfl rfl (HK0.out.on hx.low) Tryd.underlying24 rfl (by kernel_rfl)) HS4 ?_
        simp only [Act.put, List.setIfInBounds_toArray, List.set_cons_zero, List.set_cons_succ]
        refine hk_val (i := 10) (oi := ⟨some 112, .move _, _, _, _, _⟩) (.int .u64 pc) rfl (by kernel_rfl) (by kernel_rfl) (by kernel_rfl) (fun _ _ _ h => h) (by kernel_rfl) (fun _ _ => rfl) HS4 ?_
        simp only [Act.put, List.setIfInBounds_toArray, List.set_cons_zero, List.set_cons_succ]
        refine hk_call (i := 8) (oi := ⟨some 110, .call _, _, _, _, _⟩) (by kernel_rfl) rfl (by kernel_rfl) (by first | rfl | kernel_rfl) (HN0.out _ (BW.on HV0.out HS4.low)) ?_
        rintro e w5 ⟨rfl, hb⟩
        have HS5 := HS4.on hb
        refine ⟨_, rfl, HS5, ?_⟩
        simp only [Act.put, List.setIfInBounds_toArray, List.set_cons_zero, List.set_cons_succ]
        refine hk_call (i := 11) (oi := ⟨some 113, .call _, _, _, _, _⟩) (by kernel_rfl) rfl (by kernel_rfl) (by first | rfl | kernel_rfl) (HR0.out _) ?_
        rintro e w6 ⟨rfl, hb⟩
        have HS6 := HS5.on hb
        refine ⟨_, rfl, HS6, ?_⟩
        simp only [Act.put, List.setIfInBounds_toArray, List.set_cons_zero, List.set_cons_succ]
        refine hk_val (i := 12) (oi := ⟨some 114, .binOp _ _ _ _ _, _, _, _, _⟩) (.bool false) rfl (by kernel_rfl) (by kernel_rfl) (by kernel_rfl) (fun _ _ _ h => h) (by kernel_rfl) (fun _ _ => Hz.ex_neK rfl rfl rfl (by simp)) HS6 ?_
        simp only [Act.put, List.setIfInBounds_toArray, List.set_cons_zero, List.set_cons_succ]
        refine hk_val (i := 13) (oi := ⟨some 115, .pick _ _ _, _, _, _, _⟩) (.bool false) rfl (by kernel_rfl) (by kernel_rfl) (by kernel_rfl) (fun _ _ _ h => h) (by kernel_rfl) (fun _ _ => rfl) HS6 ?_
        simp only [Act.put, List.setIfInBounds_toArray, List.set_cons_zero, List.set_cons_succ]
        refine wpAnyH_done (by kernel_rfl) ?_ _
        go_wp2_with (fail)
        refine wp_region_held (S := GX V s g) (by kernel_rfl) ?_
        change wpAnyH _ _ _ _ _ _ _ _ (World.drew _)
        have HS7 := HS6.on (Below.drew (Below.refl _ _))
        generalize World.drew _ = w7 at *
        refine hk_call (i := 0) (oi := ⟨some 116, .call _, _, _, _, _⟩) (by kernel_rfl) rfl (by kernel_rfl) (by first | rfl | kernel_rfl) (HAL.out _ (BW.on HV0.out HS7.low)) ?_
        rintro e w8 ⟨rfl, hb⟩
        have HS8 := HS7.on hb
        refine ⟨_, rfl, HS8, ?_⟩
        simp only [Act.put, List.setIfInBounds_toArray, List.set_cons_zero, List.set_cons_succ]
        refine hk_val (i := 1) (oi := ⟨some 117, .move _, _, _, _, _⟩) (.bool true) rfl (by kernel_rfl) (by kernel_rfl) (by kernel_rfl) (fun _ _ _ h => h) (by kernel_rfl) (fun _ _ => rfl) HS8 ?_
        simp only [Act.put, List.setIfInBounds_toArray, List.set_cons_zero, List.set_cons_succ]
        refine hk_val (i := 2) (oi := ⟨some 118, .move _, _, _, _, _⟩) (.slice A l.length cap) rfl (by kernel_rfl) (by kernel_rfl) (by kernel_rfl) (fun _ _ _ h => h) (by kernel_rfl) (fun _ _ => rfl) HS8 ?_
        simp only [Act.put, List.setIfInBounds_toArray, List.set_cons_zero, List.set_cons_succ]
        refine hk_val (i := 3) (oi := ⟨some 119, .call _, _, _, _, _⟩) (.int .i64 (l.length : Int)) rfl (by kernel_rfl) (by kernel_rfl) (by kernel_rfl) (fun _ _ _ h => h) (by kernel_rfl) (fun _ _ => by kernel_rfl) HS8 ?_
        simp only [Act.put, List.setIfInBounds_toArray, List.set_cons_zero, List.set_cons_succ]
        refine hk_val (i := 4) (oi := ⟨some 120, .binOp _ _ _ _ _, _, _, _, _⟩) (.bool true) rfl (by kernel_rfl) (by kernel_rfl) (by kernel_rfl) (fun _ _ _ h => h) (by kernel_rfl) (fun _ _ => Hz.ex_gtK rfl rfl rfl (by simp; omega)) HS8 ?_
        simp only [Act.put, List.setIfInBounds_toArray, List.set_cons_zero, List.set_cons_succ]
        refine hk_val (i := 5) (oi := ⟨some 121, .move _, _, _, _, _⟩) (.bool true) rfl (by kernel_rfl) (by kernel_rfl) (by kernel_rfl) (fun _ _ _ h => h) (by kernel_rfl) (fun _ _ => rfl) HS8 ?_
        simp only [Act.put, List.setIfInBounds_toArray, List.set_cons_zero, List.set_cons_succ]
        refine hk_skip (i := 6) (oi := ⟨some 122, .move _, _, _, _, _⟩) rfl (by kernel_rfl) (by kernel_rfl) (by kernel_rfl) (fun _ _ _ h => h) (by kernel_rfl) HS8 ?_
        simp only [Act.put, List.setIfInBounds_toArray, List.set_cons_zero, List.set_cons_succ]
        refine hk_skip (i := 7) (oi := ⟨some 123, .load _ _, _, _, _, _⟩) rfl (by kernel_rfl) (by kernel_rfl) (by kernel_rfl) (fun _ _ _ h => h) (by kernel_rfl) HS8 ?_
        simp only [Act.put, List.setIfInBounds_toArray, List.set_cons_zero, List.set_cons_succ]
        refine hk_skip (i := 8) (oi := ⟨some 124, .move _, _, _, _, _⟩) rfl (by kernel_rfl) (by kernel_rfl) (by kernel_rfl) (fun _ _ _ h => h) (by kernel_rfl) HS8 ?_
        simp only [Act.put, List.setIfInBounds_toArray, List.set_cons_zero, List.set_cons_succ]
        refine hk_skip (i := 9) (oi := ⟨some 125, .call _, _, _, _, _⟩) rfl (by kernel_rfl) (by kernel_rfl) (by kernel_rfl) (fun _ _ _ h => h) (by kernel_rfl) HS8 ?_
        simp only [Act.put, List.setIfInBounds_toArray, List.set_cons_zero, List.set_cons_succ]
        refine hk_skip (i := 10) (oi := ⟨some 126, .move _, _, _, _, _⟩) rfl (by kernel_rfl) (by kernel_rfl) (by kernel_rfl) (fun _ _ _ h => h) (by kernel_rfl) HS8 ?_
        simp only [Act.put, List.setIfInBounds_toArray, List.set_cons_zero, List.set_cons_succ]
        refine hk_skip (i := 11) (oi := ⟨some 127, .load _ _, _, _, _, _⟩) rfl (by kernel_rfl) (by kernel_rfl) (by kernel_rfl) (fun _ _ _ h => h) (by kernel_rfl) HS8 ?_
        simp only [Act.put, List.setIfInBounds_toArray, List.set_cons_zero, List.set_cons_succ]
        refine hk_skip (i := 12) (oi := ⟨some 128, .move _, _, _, _, _⟩) rfl (by kernel_rfl) (by kernel_rfl) (by kernel_rfl) (fun _ _ _ h => h) (by kernel_rfl) HS8 ?_
        simp only [Act.put, List.setIfInBounds_toArray, List.set_cons_zero, List.set_cons_succ]
        refine hk_skip (i := 13) (oi := ⟨some 129, .call _, _, _, _, _⟩) rfl (by kernel_rfl) (by kernel_rfl) (by kernel_rfl) (fun _ _ _ h => h) (by kernel_rfl) HS8 ?_
        simp only [Act.put, List.setIfInBounds_toArray, List.set_cons_zero, List.set_cons_succ]
        refine hk_skip (i := 14) (oi := ⟨some 130, .binOp _ _ _ _ _, _, _, _, _⟩) rfl (by kernel_rfl) (by kernel_rfl) (by kernel_rfl) (fun _ _ _ h => h) (by kernel_rfl) HS8 ?_
        simp only [Act.put, List.setIfInBounds_toArray, List.set_cons_zero, List.set_cons_succ]
        refine hk_skip (i := 15) (oi := ⟨some 131, .move _, _, _, _, _⟩) rfl (by kernel_rfl) (by kernel_rfl) (by kernel_rfl) (fun _ _ _ h => h) (by kernel_rfl) HS8 ?_
        simp only [Act.put, List.setIfInBounds_toArray, List.set_cons_zero, List.set_cons_succ]
        refine hk_skip (i := 16) (oi := ⟨some 132, .move _, _, _, _, _⟩) rfl (by kernel_rfl) (by kernel_rfl) (by kernel_rfl) (fun _ _ _ h => h) (by kernel_rfl) HS8 ?_
        simp only [Act.put, List.setIfInBounds_toArray, List.set_cons_zero, List.set_cons_succ]
        refine hk_skip (i := 17) (oi := ⟨some 133, .move _, _, _, _, _⟩) rfl (by kernel_rfl) (by kernel_rfl) (by kernel_rfl) (fun _ _ _ h => h) (by kernel_rfl) HS8 ?_
        simp only [Act.put, List.setIfInBounds_toArray, List.set_cons_zero, List.set_cons_succ]
        refine hk_skip (i := 18) (oi := ⟨some 134, .call _, _, _, _, _⟩) rfl (by kernel_rfl) (by kernel_rfl) (by kernel_rfl) (fun _ _ _ h => h) (by kernel_rfl) HS8 ?_
        simp only [Act.put, List.setIfInBounds_toArray, List.set_cons_zero, List.set_cons_succ]
        refine hk_skip (i := 19) (oi := ⟨some 135, .move _, _, _, _, _⟩) rfl (by kernel_rfl) (by kernel_rfl) (by kernel_rfl) (fun _ _ _ h => h) (by kernel_rfl) HS8 ?_
        simp only [Act.put, List.setIfInBounds_toArray, List.set_cons_zero, List.set_cons_succ]
        refine hk_skip (i := 20) (oi := ⟨some 136, .move _, _, _, _, _⟩) rfl (by kernel_rfl) (by kernel_rfl) (by kernel_rfl) (fun _ _ _ h => h) (by kernel_rfl) HS8 ?_
        simp only [Act.put, List.setIfInBounds_toArray, List.set_cons_zero, List.set_cons_succ]
        refine hk_skip (i := 21) (oi := ⟨some 137, .call _, _, _, _, _⟩) rfl (by kernel_rfl) (by kernel_rfl) (by kernel_rfl) (fun _ _ _ h => h) (by kernel_rfl) HS8 ?_
        simp only [Act.put, List.setIfInBounds_toArray, List.set_cons_zero, List.set_cons_succ]
        refine hk_skip (i := 22) (oi := ⟨some 138, .binOp _ _ _ _ _, _, _, _, _⟩) rfl (by kernel_rfl) (by kernel_rfl) (by kernel_rfl) (fun _ _ _ h => h) (by kernel_rfl) HS8 ?_
        simp only [Act.put, List.setIfInBounds_toArray, List.set_cons_zero, List.set_cons_succ]
        refine hk_skip (i := 23) (oi := ⟨some 139, .pick _ _ _, _, _, _, _⟩) rfl (by kernel_rfl) (by kernel_rfl) (by kernel_rfl) (fun _ _ _ h => h) (by kernel_rfl) HS8 ?_
        simp only [Act.put, List.setIfInBounds_toArray, List.set_cons_zero, List.set_cons_succ]
        refine hk_val (i := 24) (oi := ⟨some 140, .pick _ _ _, _, _, _, _⟩) (.bool true) rfl (by kernel_rfl) (by kernel_rfl) (by kernel_rfl) (fun _ _ _ h => h) (by kernel_rfl) (fun _ _ => rfl) HS8 ?_
        simp only [Act.put, List.setIfInBounds_toArray, List.set_cons_zero, List.set_cons_succ]
        refine hk_val (i := 25) (oi := ⟨some 141, .pick _ _ _, _, _, _, _⟩) (.bool true) rfl (by kernel_rfl) (by kernel_rfl) (by kernel_rfl) (fun _ _ _ h => h) (by kernel_rfl) (fun _ _ => rfl) HS8 ?_
        simp only [Act.put, List.setIfInBounds_toArray, List.set_cons_zero, List.set_cons_succ]
        refine hk_val (i := 26) (oi := ⟨some 6, .assign _, _, _, _, _⟩) (.bool true) rfl (by kernel_rfl) (by kernel_rfl) (by kernel_rfl) (fun _ _ _ h => h) (by kernel_rfl) (fun _ _ => rfl) HS8 ?_
        simp only [Act.put, List.setIfInBounds_toArray, List.set_cons_zero, List.set_cons_succ]
        refine wpAnyH_done (by kernel_rfl) ?_ _
        go_wp2
        go_ret
        exact ⟨rfl, BW.on HV0.out HS8.low⟩
      · have HXS := Lib.hid (HXL.out (by omega))
        have h60l : ¬ (60 : Int) < (l.length : Int) := by omega
        clear HXL HX hno
        go_wp2_with (fail)
        refine wp_region_held (S := GX V sL g) (by kernel_rfl) ?_
        change wpAnyH _ _ _ _ _ _ _ _ (World.drew _)
        have HS := HXS.out.on (Below.drew (Below.refl _ _))
        generalize World.drew _ = w3 at *
        refine hk_val (i := 0) (oi := ⟨some 102, .move _, _, _, _, _⟩) (.pointer none) rfl (by kernel_rfl) (by kernel_rfl) (by kernel_rfl) (fun _ _ _ h => h) (by kernel_rfl) (fun _ _ => rfl) HS ?_
        simp only [Act.put, List.setIfInBounds_toArray, List.set_cons_zero, List.set_cons_succ]
        refine hk_val (i := 1) (oi := ⟨some 103, .move _, _, _, _, _⟩) (.int .u64 pc) rfl (by kernel_rfl) (by kernel_rfl) (by kernel_rfl) (fun _ _ _ h => h) (by kernel_rfl) (fun _ _ => rfl) HS ?_
        simp only [Act.put, List.setIfInBounds_toArray, List.set_cons_zero, List.set_cons_succ]
        refine hk_call (i := 2) (oi := ⟨some 104, .call _, _, _, _, _⟩) (by kernel_rfl) rfl (by kernel_rfl) (by first | rfl | kernel_rfl) (HC0.out _) ?_
        rintro e w4 ⟨rfl, rfl⟩
        have HS4 := HS
        refine ⟨_, rfl, HS4, ?_⟩
        simp only [Act.put, List.setIfInBounds_toArray, List.set_cons_zero, List.set_cons_succ]
        refine hk_val (i := 3) (oi := ⟨some 105, .binOp _ _ _ _ _, _, _, _, _⟩) (.bool false) rfl (by kernel_rfl) (by kernel_rfl) (by kernel_rfl) (fun _ _ _ h => h) (by kernel_rfl) (fun _ _ => Hz.ex_neK rfl rfl rfl (by simp)) HS4 ?_
        simp only [Act.put, List.setIfInBounds_toArray, List.set_cons_zero, List.set_cons_succ]
        refine hk_val (i := 4) (oi := ⟨some 106, .move _, _, _, _, _⟩) (.bool false) rfl (by kernel_rfl) (by kernel_rfl) (by kernel_rfl) (fun _ _ _ h => h) (by kernel_rfl) (fun _ _ => rfl) HS4 ?_
        simp only [Act.put, List.setIfInBounds_toArray, List.set_cons_zero, List.set_cons_succ]
        refine hk_val (i := 5) (oi := ⟨some 107, .move _, _, _, _, _⟩) (.pointer none) rfl (by kernel_rfl) (by kernel_rfl) (by kernel_rfl) (fun _ _ _ h => h) (by kernel_rfl) (fun _ _ => rfl) HS4 ?_
        simp only [Act.put, List.setIfInBounds_toArray, List.set_cons_zero, List.set_cons_succ]
        refine hk_val (i := 6) (oi := ⟨some 108, .load _ _, _, _, _, _⟩) (.agg #[.int .i64 op, .int .i64 rd, .int .i64 rs1, .int .i64 rs2, .int .i64 imm, .bool aq, .bool rl, .int .i64 pred, .int .i64 succ]) rfl (by kernel_rfl) (by kernel_rfl) (by kernel_rfl) (fun _ _ _ h => h) (by kernel_rfl) (fun x hx => Hz.ex_load_all 24 (.tmp 4) rfl rfl (HK0.out.on hx.low) Tryd.underlying24 rfl (by kernel_rfl)) HS4 ?_
        simp only [Act.put, List.setIfInBounds_toArray, List.set_cons_zero, List.set_cons_succ]
        refine hk_val (i := 7) (oi := ⟨some 109, .move _, _, _, _, _⟩) (.int .u64 pc) rfl (by kernel_rfl) (by kernel_rfl) (by kernel_rfl) (fun _ _ _ h => h) (by kernel_rfl) (fun _ _ => rfl) HS4 ?_
        simp only [Act.put, List.setIfInBounds_toArray, List.set_cons_zero, List.set_cons_succ]
        refine hk_val (i := 9) (oi := ⟨some 111, .load _ _, _, _, _, _⟩) (.agg #[.int .i64 op, .int .i64 rd, .int .i64 rs1, .int .i64 rs2, .int .i64 imm, .bool aq, .bool rl, .int .i64 pred, .int .i64 succ]) rfl (by kernel_rfl) (by kernel_rfl) (by kernel_rfl) (fun _ _ _ h => h) (by kernel_rfl) (fun x hx => Hz.ex_load_all 24 (.tmp 4) rfl rfl (HK0.out.on hx.low) Tryd.underlying24 rfl (by kernel_rfl)) HS4 ?_
        simp only [Act.put, List.setIfInBounds_toArray, List.set_cons_zero, List.set_cons_succ]
        refine hk_val (i := 10) (oi := ⟨some 112, .move _, _, _, _, _⟩) (.int .u64 pc) rfl (by kernel_rfl) (by kernel_rfl) (by kernel_rfl) (fun _ _ _ h => h) (by kernel_rfl) (fun _ _ => rfl) HS4 ?_
        simp only [Act.put, List.setIfInBounds_toArray, List.set_cons_zero, List.set_cons_succ]
        refine hk_call (i := 8) (oi := ⟨some 110, .call _, _, _, _, _⟩) (by kernel_rfl) rfl (by kernel_rfl) (by first | rfl | kernel_rfl) (HN0.out _ (BW.on HV0.out HS4.low)) ?_
        rintro e w5 ⟨rfl, hb⟩
        have HS5 := HS4.on hb
        refine ⟨_, rfl, HS5, ?_⟩
        simp only [Act.put, List.setIfInBounds_toArray, List.set_cons_zero, List.set_cons_succ]
        refine hk_call (i := 11) (oi := ⟨some 113, .call _, _, _, _, _⟩) (by kernel_rfl) rfl (by kernel_rfl) (by first | rfl | kernel_rfl) (HR0.out _) ?_
        rintro e w6 ⟨rfl, hb⟩
        have HS6 := HS5.on hb
        refine ⟨_, rfl, HS6, ?_⟩
        simp only [Act.put, List.setIfInBounds_toArray, List.set_cons_zero, List.set_cons_succ]
        refine hk_val (i := 12) (oi := ⟨some 114, .binOp _ _ _ _ _, _, _, _, _⟩) (.bool false) rfl (by kernel_rfl) (by kernel_rfl) (by kernel_rfl) (fun _ _ _ h => h) (by kernel_rfl) (fun _ _ => Hz.ex_neK rfl rfl rfl (by simp)) HS6 ?_
        simp only [Act.put, List.setIfInBounds_toArray, List.set_cons_zero, List.set_cons_succ]
        refine hk_val (i := 13) (oi := ⟨some 115, .pick _ _ _, _, _, _, _⟩) (.bool false) rfl (by kernel_rfl) (by kernel_rfl) (by kernel_rfl) (fun _ _ _ h => h) (by kernel_rfl) (fun _ _ => rfl) HS6 ?_
        simp only [Act.put, List.setIfInBounds_toArray, List.set_cons_zero, List.set_cons_succ]
        refine wpAnyH_done (by kernel_rfl) ?_ _
        go_wp2_with (fail)
        refine wp_region_held (S := GX V sL g) (by kernel_rfl) ?_
        change wpAnyH _ _ _ _ _ _ _ _ (World.drew _)
        have HS7 := HS6.on (Below.drew (Below.refl _ _))
        generalize World.drew _ = w7 at *
        refine hk_call (i := 0) (oi := ⟨some 116, .call _, _, _, _, _⟩) (by kernel_rfl) rfl (by kernel_rfl) (by first | rfl | kernel_rfl) (HAL.out _ (BW.on HV0.out HS7.low)) ?_
        rintro e w8 ⟨rfl, hb⟩
        have HS8 := HS7.on hb
        refine ⟨_, rfl, HS8, ?_⟩
        simp only [Act.put, List.setIfInBounds_toArray, List.set_cons_zero, List.set_cons_succ]
        refine hk_val (i := 1) (oi := ⟨some 117, .move _, _, _, _, _⟩) (.bool true) rfl (by kernel_rfl) (by kernel_rfl) (by kernel_rfl) (fun _ _ _ h => h) (by kernel_rfl) (fun _ _ => rfl) HS8 ?_
        simp only [Act.put, List.setIfInBounds_toArray, List.set_cons_zero, List.set_cons_succ]
        refine hk_val (i := 2) (oi := ⟨some 118, .move _, _, _, _, _⟩) (.slice A l.length cap) rfl (by kernel_rfl) (by kernel_rfl) (by kernel_rfl) (fun _ _ _ h => h) (by kernel_rfl) (fun _ _ => rfl) HS8 ?_
        simp only [Act.put, List.setIfInBounds_toArray, List.set_cons_zero, List.set_cons_succ]
        refine hk_val (i := 3) (oi := ⟨some 119, .call _, _, _, _, _⟩) (.int .i64 (l.length : Int)) rfl (by kernel_rfl) (by kernel_rfl) (by kernel_rfl) (fun _ _ _ h => h) (by kernel_rfl) (fun _ _ => by kernel_rfl) HS8 ?_
        simp only [Act.put, List.setIfInBounds_toArray, List.set_cons_zero, List.set_cons_succ]
        refine hk_val (i := 4) (oi := ⟨some 120, .binOp _ _ _ _ _, _, _, _, _⟩) (.bool false) rfl (by kernel_rfl) (by kernel_rfl) (by kernel_rfl) (fun _ _ _ h => h) (by kernel_rfl) (fun _ _ => Hz.ex_gtK rfl rfl rfl (by simp; omega)) HS8 ?_
        simp only [Act.put, List.setIfInBounds_toArray, List.set_cons_zero, List.set_cons_succ]
        refine hk_val (i := 5) (oi := ⟨some 121, .move _, _, _, _, _⟩) (.bool false) rfl (by kernel_rfl) (by kernel_rfl) (by kernel_rfl) (fun _ _ _ h => h) (by kernel_rfl) (fun _ _ => rfl) HS8 ?_
        simp only [Act.put, List.setIfInBounds_toArray, List.set_cons_zero, List.set_cons_succ]
        refine hk_val (i := 6) (oi := ⟨some 122, .move _, _, _, _, _⟩) (.pointer (some ⟨g, 0, none⟩)) rfl (by kernel_rfl) (by kernel_rfl) (by kernel_rfl) (fun _ _ _ h => h) (by kernel_rfl) (fun _ _ => rfl) HS8 ?_
        simp only [Act.put, List.setIfInBounds_toArray, List.set_cons_zero, List.set_cons_succ]
        refine hk_val (i := 7) (oi := ⟨some 123, .load _ _, _, _, _, _⟩) (.agg #[.int .i64 op, .int .i64 rd, .int .i64 rs1, .int .i64 rs2, .int .i64 imm, .bool aq, .bool rl, .int .i64 pred, .int .i64 succ]) rfl (by kernel_rfl) (by kernel_rfl) (by kernel_rfl) (fun _ _ _ h => h) (by kernel_rfl) (fun x hx => Hz.ex_load_all 24 (.tmp 4) rfl rfl (HK0.out.on hx.low) Tryd.underlying24 rfl (by kernel_rfl)) HS8 ?_
        simp only [Act.put, List.setIfInBounds_toArray, List.set_cons_zero, List.set_cons_succ]
        refine hk_val (i := 8) (oi := ⟨some 124, .move _, _, _, _, _⟩) (.int .u64 pc) rfl (by kernel_rfl) (by kernel_rfl) (by kernel_rfl) (fun _ _ _ h => h) (by kernel_rfl) (fun _ _ => rfl) HS8 ?_
        simp only [Act.put, List.setIfInBounds_toArray, List.set_cons_zero, List.set_cons_succ]
        refine hk_val (i := 10) (oi := ⟨some 126, .move _, _, _, _, _⟩) (.slice A l.length cap) rfl (by kernel_rfl) (by kernel_rfl) (by kernel_rfl) (fun _ _ _ h => h) (by kernel_rfl) (fun _ _ => rfl) HS8 ?_
        simp only [Act.put, List.setIfInBounds_toArray, List.set_cons_zero, List.set_cons_succ]
        refine hk_val (i := 11) (oi := ⟨some 127, .load _ _, _, _, _, _⟩) (.agg #[.int .i64 op, .int .i64 rd, .int .i64 rs1, .int .i64 rs2, .int .i64 imm, .bool aq, .bool rl, .int .i64 pred, .int .i64 succ]) rfl (by kernel_rfl) (by kernel_rfl) (by kernel_rfl) (fun _ _ _ h => h) (by kernel_rfl) (fun x hx => Hz.ex_load_all 24 (.tmp 4) rfl rfl (HK0.out.on hx.low) Tryd.underlying24 rfl (by kernel_rfl)) HS8 ?_
        simp only [Act.put, List.setIfInBounds_toArray, List.set_cons_zero, List.set_cons_succ]
        refine hk_val (i := 12) (oi := ⟨some 128, .move _, _, _, _, _⟩) (.int .u64 pc) rfl (by kernel_rfl) (by kernel_rfl) (by kernel_rfl) (fun _ _ _ h => h) (by kernel_rfl) (fun _ _ => rfl) HS8 ?_
        simp only [Act.put, List.setIfInBounds_toArray, List.set_cons_zero, List.set_cons_succ]
        refine hk_call (i := 9) (oi := ⟨some 125, .call _, _, _, _, _⟩) (by kernel_rfl) rfl (by kernel_rfl) (by first | rfl | kernel_rfl) (HNXL.out _ HS8) ?_
        rintro e w9 ⟨rfl, hb⟩
        have HS9 := HS8.on hb
        refine ⟨_, rfl, HS9, ?_⟩
        simp only [Act.put, List.setIfInBounds_toArray, List.set_cons_zero, List.set_cons_succ]
        refine hk_call (i := 13) (oi := ⟨some 129, .call _, _, _, _, _⟩) (by kernel_rfl) rfl (by kernel_rfl) (by first | rfl | kernel_rfl) (HRNL.out _ HS9.low) ?_
        rintro e w10 ⟨rfl, hb⟩
        have HS10 := HS9.on hb
        refine ⟨_, rfl, HS10, ?_⟩
        simp only [Act.put, List.setIfInBounds_toArray, List.set_cons_zero, List.set_cons_succ]
        refine hk_val (i := 14) (oi := ⟨some 130, .binOp _ _ _ _ _, _, _, _, _⟩) (.bool true) rfl (by kernel_rfl) (by kernel_rfl) (by kernel_rfl) (fun _ _ _ h => h) (by kernel_rfl) (fun _ _ => Hz.ex_eqK rfl rfl rfl (by simp)) HS10 ?_
        simp only [Act.put, List.setIfInBounds_toArray, List.set_cons_zero, List.set_cons_succ]
        refine hk_val (i := 15) (oi := ⟨some 131, .move _, _, _, _, _⟩) (.bool true) rfl (by kernel_rfl) (by kernel_rfl) (by kernel_rfl) (fun _ _ _ h => h) (by kernel_rfl) (fun _ _ => rfl) HS10 ?_
        simp only [Act.put, List.setIfInBounds_toArray, List.set_cons_zero, List.set_cons_succ]
        refine hk_val (i := 16) (oi := ⟨some 132, .move _, _, _, _, _⟩) (.pointer (some ⟨g, 0, none⟩)) rfl (by kernel_rfl) (by kernel_rfl) (by kernel_rfl) (fun _ _ _ h => h) (by kernel_rfl) (fun _ _ => rfl) HS10 ?_
        simp only [Act.put, List.setIfInBounds_toArray, List.set_cons_zero, List.set_cons_succ]
        refine hk_val (i := 17) (oi := ⟨some 133, .move _, _, _, _, _⟩) (.int .u64 pc) rfl (by kernel_rfl) (by kernel_rfl) (by kernel_rfl) (fun _ _ _ h => h) (by kernel_rfl) (fun _ _ => rfl) HS10 ?_
        simp only [Act.put, List.setIfInBounds_toArray, List.set_cons_zero, List.set_cons_succ]
        refine hk_val (i := 19) (oi := ⟨some 135, .move _, _, _, _, _⟩) (.slice A l.length cap) rfl (by kernel_rfl) (by kernel_rfl) (by kernel_rfl) (fun _ _ _ h => h) (by kernel_rfl) (fun _ _ => rfl) HS10 ?_
        simp only [Act.put, List.setIfInBounds_toArray, List.set_cons_zero, List.set_cons_succ]
        refine hk_val (i := 20) (oi := ⟨some 136, .move _, _, _, _, _⟩) (.int .u64 pc) rfl (by kernel_rfl) (by kernel_rfl) (by kernel_rfl) (fun _ _ _ h => h) (by kernel_rfl) (fun _ _ => rfl) HS10 ?_
        simp only [Act.put, List.setIfInBounds_toArray, List.set_cons_zero, List.set_cons_succ]
        refine hk_call (i := 18) (oi := ⟨some 134, .call _, _, _, _, _⟩) (by kernel_rfl) rfl (by kernel_rfl) (by first | rfl | kernel_rfl) (HCOL.out _ HS10) ?_
        rintro e w11 ⟨rfl, n11, rfl⟩
        have HS11 := HS10.drewN n11
        refine ⟨_, rfl, HS11, ?_⟩
        simp only [Act.put, List.setIfInBounds_toArray, List.set_cons_zero, List.set_cons_succ]
        refine hk_call (i := 21) (oi := ⟨some 137, .call _, _, _, _, _⟩) (by kernel_rfl) rfl (by kernel_rfl) (by first | rfl | kernel_rfl) (HRCL.out _ HS11.low) ?_
        rintro e w12 ⟨rfl, hb⟩
        have HS12 := HS11.on hb
        refine ⟨_, rfl, HS12, ?_⟩
        simp only [Act.put, List.setIfInBounds_toArray, List.set_cons_zero, List.set_cons_succ]
        refine hk_val (i := 22) (oi := ⟨some 138, .binOp _ _ _ _ _, _, _, _, _⟩) (.bool true) rfl (by kernel_rfl) (by kernel_rfl) (by kernel_rfl) (fun _ _ _ h => h) (by kernel_rfl) (fun _ _ => Hz.ex_eqK rfl rfl rfl (by simp)) HS12 ?_
        simp only [Act.put, List.setIfInBounds_toArray, List.set_cons_zero, List.set_cons_succ]
        refine hk_val (i := 23) (oi := ⟨some 139, .pick _ _ _, _, _, _, _⟩) (.bool true) rfl (by kernel_rfl) (by kernel_rfl) (by kernel_rfl) (fun _ _ _ h => h) (by kernel_rfl) (fun _ _ => rfl) HS12 ?_
        simp only [Act.put, List.setIfInBounds_toArray, List.set_cons_zero, List.set_cons_succ]
        refine hk_val (i := 24) (oi := ⟨some 140, .pick _ _ _, _, _, _, _⟩) (.bool true) rfl (by kernel_rfl) (by kernel_rfl) (by kernel_rfl) (fun _ _ _ h => h) (by kernel_rfl) (fun _ _ => rfl) HS12 ?_
        simp only [Act.put, List.setIfInBounds_toArray, List.set_cons_zero, List.set_cons_succ]
        refine hk_val (i := 25) (oi := ⟨some 141, .pick _ _ _, _, _, _, _⟩) (.bool true) rfl (by kernel_rfl) (by kernel_rfl) (by kernel_rfl) (fun _ _ _ h => h) (by kernel_rfl) (fun _ _ => rfl) HS12 ?_
        simp only [Act.put, List.setIfInBounds_toArray, List.set_cons_zero, List.set_cons_succ]
        refine hk_val (i := 26) (oi := ⟨some 6, .assign _, _, _, _, _⟩) (.bool true) rfl (by kernel_rfl) (by kernel_rfl) (by kernel_rfl) (fun _ _ _ h => h) (by kernel_rfl) (fun _ _ => rfl) HS12 ?_
        simp only [Act.put, List.setIfInBounds_toArray, List.set_cons_zero, List.set_cons_succ]
        refine wpAnyH_done (by kernel_rfl) ?_ _
        go_wp2
        go_ret
        exact ⟨rfl, BW.on HV0.out HS12.low⟩
end Go.Proofs.YtdcmpmmbmjaaiaaDoor
