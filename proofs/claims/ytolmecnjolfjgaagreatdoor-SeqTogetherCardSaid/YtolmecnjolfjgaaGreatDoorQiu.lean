/- Layer 11: SeqTogether. -/
import Derived.Test.YtolmecnjolfjgaaGreatDoorQeu
set_option linter.unusedVariables false
set_option maxRecDepth 100000
namespace Go.Proofs.YtolmecnjolfjgaaGreatDoor
open Go.RowKit

set_option maxHeartbeats 4000000 in
theorem together_law {W : World} (T : TabQ W) (h : Hrt) (hw : Wh h) (A : Option Addr) (cap : Nat) (B : List Int) (hb : ∀ b ∈ B, 0 ≤ b ∧ b < 256) (hn : B.length ≤ 9223372036854775807) (hc : B.length ≤ cap) (hc2 : cap ≤ 9223372036854775807) (hr : Rd W W.heap.size A (cellsB B)) (most : Int) (hm : 0 ≤ most ∧ most < 256) :
    Calls Tryz.prog 8 #[.agg (hrtCells h), .slice A B.length cap, .int .u8 most] W fun e w' => e = .returned (.bool true) ∧ Below W.heap.size W w' := by
  have KA := fun x (hx : BW W x) => (alive11_any T x hx).mono fun e w' ⟨h1, _, h3⟩ => (⟨h1, h3⟩ : _ ∧ Below x.heap.size x w')
  have H1 : Hid (Blk (hrtCells h) 38 W.heap.size (W.alloc (.cells (hrtCells h) 38))) := Blk.new _ _ _
  have HB1 : Hid (BW W (W.alloc (.cells (hrtCells h) 38))) := BW.new (Below.refl _ _) _
  by_cases h1 : B.length ≤ 1024
  · have d1 : decide ((1024 : Int) < B.length) = false := decide_eq_false (by omega)
    have hi : ImgAt W A cap B := ⟨hr, hb, h1, hc, hc2⟩
    have KQ := fun x (hx : BW W x) => alone_c h A cap B most x (T.t11.below hx) (hi.on hx) hw (by omega)
    have KS := fun x (hx : BW W x) h (hw : Wh h) (d : Dn) (hr : U64 d.read) => step_c h A cap B d.read d.failed x (T.t11.below hx) (hi.on hx) hw hr
    have hl0 := hw.len
    have HI0 := Lib.hid (hrt_info hl0)
    obtain ⟨sq1, _, sq3, sq4⟩ := alo_seq B h most.toNat
    have hfl := (alo_oks hw hb most.toNat).1.h.len
    have HZ : Hid ((hrtCells h).setIfInBounds 1 (.int .u64 0) = hrtCells (zerX h)) := hrtC_setx hw.len (r := 0) (by omega) 0
    have HOK := Lib.hid (fun i => alo_oks hw hb i)
    have HBY := Lib.hid hb
    have HC1 := hrtC_x hw.len (r := 0) (by omega)
    have HSA := Lib.hid (fun i => step_again hw hb i)
    have HI1 := Lib.hid (hrt_info hfl)
    have KE := Lib.hid (run_eq_hrt (aloK B h most.toNat).h (aloK B h most.toNat).h hfl hfl)
    have KP := fun w3 : World => (Has.of (Blk.new (hrtCells zerH) 38 w3) (n := 34) rfl).put (P := Tryz.prog) (hrtCells (aloK B h most.toNat).h) (hrtC_size hfl) (hrt_one _) (ty := 38) (hrt_info hfl)
    have HSQ := Lib.hid (⟨sq3, sq4⟩ : aloK B h (aloK B h most.toNat).done.length = aloK B h most.toNat ∧ ∀ i, i < (aloK B h most.toNat).done.length → (aloK B h i).h.cause = 0 ∧ (aloK B h most.toNat).done[i]? = some (nowD B (aloK B h i)))
    have hm2 : (aloK B h most.toNat).done.length ≤ 255 := by omega
    clear sq1 sq3 sq4 hfl T hb hr hw hl0 hi
    unfold RetHD at KS
    unfold RetAl at KQ
    go_enter Tryz.func8, Tryz.ntmps8
    go_upto_region 1 with (fail)
    generalize W.alloc (.cells _ 38) = w1 at *
    go_upto_region 5 with (first
      | (go_at_call 18; refine (KA _ HB1.out).mono ?_; rintro e w2 ⟨rfl, hb2⟩; have HB2 := Lib.hid (HB1.out.on hb2); have H2 := H1.out.on hb2; clear hb2))
    generalize hso : aloK B h most.toNat = so at *
    have HSO := Lib.hid hso
    clear hso
    go_upto_region 6 with (first
      | (with_reducible refine load_blk (o := ⟨some 20, _, _, _, _, _⟩) rfl 38 (.tmp 3) rfl H2 rfl Tryz.underlying38 rfl HI0.out ?_)
      | (go_at_call 23; refine (KQ _ HB2.out).mono ?_; rintro e w3 ⟨v, n, rfl, hn3, hm3, hl3, hb3⟩; have HB3 := HB2.out.on hb3; have H3 := H2.on hb3; obtain ⟨w4, e4, b4, k4⟩ := KP w3)
      | (refine store_blk (o := ⟨none, .store _ (.tmp 7) (.tmp 25), _, _, _, _⟩) rfl 38 (.tmp 7) (.tmp 25) rfl rfl rfl e4 ?_))
    have b34 : Below w3.heap.size w3 w4 := ((Below.refl w3.heap.size w3).alloc (Nat.le_refl _) _).grown k4 (by simp) (fun r hr => by cases hr; exact Nat.le_refl _)
    have T4 : Tog W h so.h W.heap.size w3.heap.size v so.done w4 := ⟨Nat.le_refl _, H3.lt, HB3.on b34, H3.on b34, b4, (row_on hl3 b34).mono (by have := H2.lt; omega)⟩
    obtain ⟨lA, lc, rfl⟩ := row_form hl3
    obtain ⟨m, hm⟩ : ∃ m, so.done.length = m := ⟨_, rfl⟩
    have q1 : w4.cell? ⟨W.heap.size, 1, none⟩ = some (.int .u64 (h.x.getD 0 0)) := (T4.hart.cell 1).trans HC1
    have f1 := T4.hart.free 1
    have T5 : Hid (Tog W (zerX h) so.h W.heap.size w3.heap.size (.slice lA so.done.length lc) so.done (w4.setCell ⟨W.heap.size, 1, none⟩ (.int .u64 0))) := T4.set 1 (.int .u64 0) HZ.out
    clear b34 T4 e4 b4 k4 hl3 hm3 hn3 hb3 HB3 H3 H2 HB2 H1 HB1 KQ KP HZ HC1
    obtain ⟨g, hg⟩ : ∃ g, W.heap.size = g := ⟨_, rfl⟩
    rw [hg] at q1 f1 T5 ⊢
    clear hg
    obtain ⟨k3, hk3⟩ : ∃ g, w3.heap.size = g := ⟨_, rfl⟩
    rw [hk3] at T5 ⊢
    clear hk3
    rw [hm] at T5 HSQ hm2 ⊢
    have HM := Lib.hid hm
    clear hm
    go_upto_region 7 with (fail)
    clear q1 f1
    generalize w4.setCell _ _ = w5 at *
    go_wp2
    have T5' : Hid (Tog W (aloK B h 0).h so.h g k3 (.slice lA m lc) so.done w5) := T5
    clear T5
    go_loopg [10] m (fun gg v10 wr => ∃ i : Nat, v10 = .int .i64 i ∧ i + gg = m ∧ Hid (Tog W (aloK B h i).h so.h g k3 (.slice lA m lc) so.done wr))
    case atStart => exact ⟨0, rfl, by omega, T5'⟩
    case round =>
      clear T5'
      obtain ⟨i, rfl, hk, TI⟩ := hrel
      obtain ⟨w6, rfl⟩ : ∃ w6 : World, w6 = wr := ⟨_, rfl⟩
      have HK := Lib.hid hk
      clear hk
      by_cases him : i < m
      · have himI : (i : Int) < m := by omega
        obtain ⟨hcz, hdn⟩ := HSQ.out.2 i him
        obtain ⟨hok, _⟩ := HOK.out i
        have hrd := now_read (B := B) hok HBY.out
        obtain ⟨hsh, hsd⟩ := HSA.out i hcz
        have KS1 := fun x (hx : BW W x) => KS x hx (aloK B h i).h hok.h (nowD B (aloK B h i)) hrd
        have hl1 := (HOK.out (i + 1)).1.h.len
        rw [hsh, hsd] at KS1
        have HIA := Lib.hid (hrt_info hok.h.len)
        have HIB := Lib.hid (hrt_info hl1)
        have HSB := Lib.hid (hrtC_size hl1)
        have HSA0 := Lib.hid (hrtC_size hok.h.len)
        have HNE := Lib.hid (run_neq_dn (nowD B (aloK B h i)) (nowD B (aloK B h i)))
        clear hcz hok hrd hsh hsd
        obtain ⟨lq, lc2, hlv, hlq, hlt⟩ := TI.out.list.form (by rw [HM.out]; omega)
        rw [HM.out] at hlv
        cases hlv
        have HNX : Hid (Tog W (aloK B h (i + 1)).h so.h g k3 (.slice (some ⟨lq, 0, none⟩) m lc) so.done = Tog W (aloK B h (i + 1)).h so.h g k3 (.slice (some ⟨lq, 0, none⟩) m lc) so.done) := rfl
        generalize nowD B (aloK B h i) = dn at *
        obtain ⟨hn1, hhn1⟩ : ∃ z, (aloK B h (i + 1)).h = z := ⟨_, rfl⟩
        rw [hhn1] at KS1 hl1 HIB HSB
        have HN1 := Lib.hid hhn1
        clear hhn1 HNX
        generalize (aloK B h i).h = hi0 at *
        have TI0 := TI.out
        clear TI
        go_upto_region 10 with (fail)
        have TD := TI0.drew
        clear TI0
        refine wp_region_held (S := fun x => Tog W hi0 so.h g k3 (.slice (some ⟨lq, 0, none⟩) m lc) so.done x) (by kernel_rfl) ?_
        change wpAnyH _ _ _ _ _ _ _ _ (World.drew _)
        generalize World.drew _ = w7 at *
        have hml := HM.out
        refine held_load (i := 0) (oi := ⟨some 37, .load 38 (.tmp 3), _, _, _, _⟩) rfl (by kernel_rfl) (by kernel_rfl) (by kernel_rfl) (fun _ _ _ h => h) rfl 38 (.tmp 3) rfl rfl (fun x hx => hx.hart) Tryz.underlying38 rfl HIA.out TD ?_
        simp only [Act.put, List.setIfInBounds_toArray, List.set_cons_zero, List.set_cons_succ]
        refine held_val (i := 1) (oi := ⟨some 38, .move (.tmp 1), _, _, _, _⟩) (.slice A B.length cap) rfl (by kernel_rfl) (by kernel_rfl) (by kernel_rfl) (fun _ _ _ h => h) rfl (fun _ _ => rfl) TD ?_
        simp only [Act.put, List.setIfInBounds_toArray, List.set_cons_zero, List.set_cons_succ]
        refine held_val (i := 2) (oi := ⟨some 39, .move (.tmp 9), _, _, _, _⟩) (.slice (some ⟨lq, 0, none⟩) m lc) rfl (by kernel_rfl) (by kernel_rfl) (by kernel_rfl) (fun _ _ _ h => h) rfl (fun _ _ => rfl) TD ?_
        simp only [Act.put, List.setIfInBounds_toArray, List.set_cons_zero, List.set_cons_succ]
        refine held_val (i := 3) (oi := ⟨some 40, .move (.tmp 10), _, _, _, _⟩) (.int .i64 (i : Int)) rfl (by kernel_rfl) (by kernel_rfl) (by kernel_rfl) (fun _ _ _ h => h) rfl (fun _ _ => rfl) TD ?_
        simp only [Act.put, List.setIfInBounds_toArray, List.set_cons_zero, List.set_cons_succ]
        refine held_val (i := 4) (oi := ⟨some 41, .indexAddr _ (.tmp 39) (.tmp 40), _, _, _, _⟩) (.pointer (some ⟨lq, i * 16, none⟩)) rfl (by kernel_rfl) (by kernel_rfl) (by kernel_rfl) (fun _ _ _ h => h) rfl (fun _ _ => exec_index rfl rfl rfl him Tryz.underlying48 (by kernel_rfl)) TD ?_
        simp only [Act.put, List.setIfInBounds_toArray, List.set_cons_zero, List.set_cons_succ]
        refine held_val (i := 5) (oi := ⟨some 42, .fieldAddr _ (.tmp 41) 5, _, _, _, _⟩) (.pointer (some ⟨lq, i * 16 + 13, none⟩)) rfl (by kernel_rfl) (by kernel_rfl) (by kernel_rfl) (fun _ _ _ h => h) rfl (fun _ _ => by kernel_rfl) TD ?_
        simp only [Act.put, List.setIfInBounds_toArray, List.set_cons_zero, List.set_cons_succ]
        refine held_val (i := 6) (oi := ⟨some 43, .load _ (.tmp 42), _, _, _, _⟩) (.int .u64 dn.read) rfl (by kernel_rfl) (by kernel_rfl) (by kernel_rfl) (fun _ _ _ h => h) rfl (fun x hx => exec_load_cell rfl rfl (list_part (hml ▸ hx.list) hdn him 13 (by decide)) (by kernel_rfl)) TD ?_
        simp only [Act.put, List.setIfInBounds_toArray, List.set_cons_zero, List.set_cons_succ]
        refine held_val (i := 7) (oi := ⟨some 44, .move (.tmp 9), _, _, _, _⟩) (.slice (some ⟨lq, 0, none⟩) m lc) rfl (by kernel_rfl) (by kernel_rfl) (by kernel_rfl) (fun _ _ _ h => h) rfl (fun _ _ => rfl) TD ?_
        simp only [Act.put, List.setIfInBounds_toArray, List.set_cons_zero, List.set_cons_succ]
        refine held_val (i := 8) (oi := ⟨some 45, .move (.tmp 10), _, _, _, _⟩) (.int .i64 (i : Int)) rfl (by kernel_rfl) (by kernel_rfl) (by kernel_rfl) (fun _ _ _ h => h) rfl (fun _ _ => rfl) TD ?_
        simp only [Act.put, List.setIfInBounds_toArray, List.set_cons_zero, List.set_cons_succ]
        refine held_val (i := 9) (oi := ⟨some 46, .indexAddr _ (.tmp 44) (.tmp 45), _, _, _, _⟩) (.pointer (some ⟨lq, i * 16, none⟩)) rfl (by kernel_rfl) (by kernel_rfl) (by kernel_rfl) (fun _ _ _ h => h) rfl (fun _ _ => exec_index rfl rfl rfl him Tryz.underlying48 (by kernel_rfl)) TD ?_
        simp only [Act.put, List.setIfInBounds_toArray, List.set_cons_zero, List.set_cons_succ]
        refine held_val (i := 10) (oi := ⟨some 47, .fieldAddr _ (.tmp 46) 7, _, _, _, _⟩) (.pointer (some ⟨lq, i * 16 + 15, none⟩)) rfl (by kernel_rfl) (by kernel_rfl) (by kernel_rfl) (fun _ _ _ h => h) rfl (fun _ _ => by kernel_rfl) TD ?_
        simp only [Act.put, List.setIfInBounds_toArray, List.set_cons_zero, List.set_cons_succ]
        refine held_val (i := 11) (oi := ⟨some 48, .load _ (.tmp 47), _, _, _, _⟩) (.bool dn.failed) rfl (by kernel_rfl) (by kernel_rfl) (by kernel_rfl) (fun _ _ _ h => h) rfl (fun x hx => exec_load_cell rfl rfl (list_part (hml ▸ hx.list) hdn him 15 (by decide)) (by kernel_rfl)) TD ?_
        simp only [Act.put, List.setIfInBounds_toArray, List.set_cons_zero, List.set_cons_succ]
        refine end_onceP (.tuple #[.agg (hrtCells hn1), .agg (dnCells dn)]) (.agg (hrtCells hn1)) (.agg (dnCells dn)) 49 36 50 51 11 12 (fun b1 b2 x => Tog W hi0 so.h g k3 (.slice (some ⟨lq, 0, none⟩) m lc) so.done x ∧ Blk (hrtCells hn1) 38 b1 x ∧ Blk (dnCells dn) 44 b2 x) ?_ ?_
        · clear TD
          rintro b1 b2 w8 ⟨T8, N8, D8⟩
          simp only [Act.put, List.setIfInBounds_toArray, List.set_cons_zero, List.set_cons_succ]
          go_upto_region 11 with (fail)
          have T9 := T8.drew
          have N9 := N8.drew
          have D9 := D8.drew
          clear T8 N8 D8
          refine wp_region_held (S := fun x => Tog W hi0 so.h g k3 (.slice (some ⟨lq, 0, none⟩) m lc) so.done x ∧ Blk (hrtCells hn1) 38 b1 x ∧ Blk (dnCells dn) 44 b2 x) (by kernel_rfl) ?_
          change wpAnyH _ _ _ _ _ _ _ _ (World.drew _)
          generalize World.drew _ = w9 at *
          have hnef := HNE.out
          rw [dnEq_self] at hnef
          refine held_load (i := 0) (oi := ⟨some 52, .load 44 (.tmp 12), _, _, _, _⟩) rfl (by kernel_rfl) (by kernel_rfl) (by kernel_rfl) (fun _ _ _ h => h) rfl 44 (.tmp 12) rfl rfl (fun x hx => hx.2.2) Tryz.underlying44 rfl (by kernel_rfl) ⟨T9, N9, D9⟩ ?_
          simp only [Act.put, List.setIfInBounds_toArray, List.set_cons_zero, List.set_cons_succ]
          refine held_val (i := 1) (oi := ⟨some 53, .move (.tmp 9), _, _, _, _⟩) (.slice (some ⟨lq, 0, none⟩) m lc) rfl (by kernel_rfl) (by kernel_rfl) (by kernel_rfl) (fun _ _ _ h => h) rfl (fun _ _ => rfl) ⟨T9, N9, D9⟩ ?_
          simp only [Act.put, List.setIfInBounds_toArray, List.set_cons_zero, List.set_cons_succ]
          refine held_val (i := 2) (oi := ⟨some 54, .move (.tmp 10), _, _, _, _⟩) (.int .i64 (i : Int)) rfl (by kernel_rfl) (by kernel_rfl) (by kernel_rfl) (fun _ _ _ h => h) rfl (fun _ _ => rfl) ⟨T9, N9, D9⟩ ?_
          simp only [Act.put, List.setIfInBounds_toArray, List.set_cons_zero, List.set_cons_succ]
          refine held_val (i := 3) (oi := ⟨some 55, .indexAddr _ (.tmp 53) (.tmp 54), _, _, _, _⟩) (.pointer (some ⟨lq, i * 16, none⟩)) rfl (by kernel_rfl) (by kernel_rfl) (by kernel_rfl) (fun _ _ _ h => h) rfl (fun _ _ => exec_index rfl rfl rfl him Tryz.underlying48 (by kernel_rfl)) ⟨T9, N9, D9⟩ ?_
          simp only [Act.put, List.setIfInBounds_toArray, List.set_cons_zero, List.set_cons_succ]
          refine held_val (i := 4) (oi := ⟨some 56, .load _ (.tmp 55), _, _, _, _⟩) (.agg (dnCells dn)) rfl (by kernel_rfl) (by kernel_rfl) (by kernel_rfl) (fun _ _ _ h => h) rfl (fun x hx => exec_load_part (cs := (dnCells dn).toList) rfl rfl (list_range (hml ▸ hx.1.list) hdn him) Tryz.underlying44 rfl (by kernel_rfl)) ⟨T9, N9, D9⟩ ?_
          simp only [Act.put, List.setIfInBounds_toArray, List.set_cons_zero, List.set_cons_succ]
          refine held_val (i := 5) (oi := ⟨some 57, .binOp .neq _ (.tmp 52) (.tmp 56) _, _, _, _, _⟩) (.bool false) rfl (by kernel_rfl) (by kernel_rfl) (by kernel_rfl) (fun _ _ _ h => h) rfl (fun x _ => exec_cmp rfl guard_dn rfl rfl (hnef x)) ⟨T9, N9, D9⟩ ?_
          simp only [Act.put, List.setIfInBounds_toArray, List.set_cons_zero, List.set_cons_succ]
          refine wpAnyH_done (by kernel_rfl) ?_ _
          obtain ⟨w10, e10, b10, k10⟩ := (Has.of T9.hart HSA0.out).put (P := Tryz.prog) (hrtCells hn1) HSB.out (hrt_one _) (ty := 38) HIB.out
          have TT : Hid (Tog W hn1 so.h g k3 (.slice (some ⟨lq, 0, none⟩) m lc) so.done w10) := T9.put b10 k10
          clear T9 D9 b10 k10 hnef
          go_wp2_with (first
            | (with_reducible refine load_blk (o := ⟨some 58, _, _, _, _, _⟩) rfl 38 (.tmp 11) rfl N9 rfl Tryz.underlying38 rfl HIB.out ?_)
            | (refine store_blk (o := ⟨none, .store _ (.tmp 3) (.tmp 58), _, _, _, _⟩) rfl 38 (.tmp 3) (.tmp 58) rfl rfl rfl e10 ?_))
          go_roundg (gk - 1)
          case measure => have := HK.out; omega
          case rel => exact ⟨i + 1, by go_num, by have := HK.out; omega, (show Hid _ from by show Tog _ _ _ _ _ _ _ _; rw [HN1.out]; exact TT.out)⟩
        · intro hend
          refine any_three (i := 12) (j := 16) (k := 17) (by kernel_rfl) ?_ ?_ ?_
          · refine call_op (oi := ⟨some 49, .call _, _, _, _, _⟩) rfl rfl (by first | rfl | kernel_rfl) (KS1 _ TD.bw) ?_
            rintro e w7 ⟨rfl, hb7⟩
            have T7 := TD.on hb7
            refine ⟨_, rfl, T7, ?_⟩
            simp only [Act.put, List.setIfInBounds_toArray, List.set_cons_zero, List.set_cons_succ]
            refine held_val (i := 13) (oi := ⟨some 36, .move (.tmp 49), _, _, _, _⟩) (.tuple #[.agg (hrtCells hn1), .agg (dnCells dn)]) rfl (by kernel_rfl) (by kernel_rfl) (by kernel_rfl) (fun _ _ _ h => h) rfl (fun _ _ => rfl) T7 ?_
            simp only [Act.put, List.setIfInBounds_toArray, List.set_cons_zero, List.set_cons_succ]
            refine held_val (i := 14) (oi := ⟨some 50, .extract (.tmp 36) 0, _, _, _, _⟩) (.agg (hrtCells hn1)) rfl (by kernel_rfl) (by kernel_rfl) (by kernel_rfl) (fun _ _ _ h => h) rfl (fun _ _ => rfl) T7 ?_
            simp only [Act.put, List.setIfInBounds_toArray, List.set_cons_zero, List.set_cons_succ]
            refine held_val (i := 15) (oi := ⟨some 51, .extract (.tmp 36) 1, _, _, _, _⟩) (.agg (dnCells dn)) rfl (by kernel_rfl) (by kernel_rfl) (by kernel_rfl) (fun _ _ _ h => h) rfl (fun _ _ => rfl) T7 ?_
            simp only [Act.put, List.setIfInBounds_toArray, List.set_cons_zero, List.set_cons_succ]
            refine any_two (i := 16) (j := 17) (by kernel_rfl) ?_ ?_
            · refine alloc_op (oi := ⟨some 11, .alloc _, _, _, _, _⟩) (cs := hrtCells zerH) rfl rfl rfl (by kernel_rfl) ?_
              have T8 := T7.new (.cells (hrtCells zerH) 38)
              have N8 := Blk.new (hrtCells zerH) 38 w7
              have hs8 : k3 < w7.heap.size ∧ lq < w7.heap.size := ⟨T7.fin.lt, (T7.list.lt _ rfl).2⟩
              refine ⟨T8, ?_⟩
              simp only [Act.put, List.setIfInBounds_toArray, List.set_cons_zero, List.set_cons_succ]
              generalize w7.alloc (.cells (hrtCells zerH) 38) = w8 at *
              refine any_one (i := 17) (by kernel_rfl) ?_
              · refine alloc_op (oi := ⟨some 12, .alloc _, _, _, _, _⟩) (cs := dnCells noDn) rfl rfl rfl (by kernel_rfl) ?_
                have T9 := T8.new (.cells (dnCells noDn) 44)
                have N9 := Blk.new (dnCells noDn) 44 w8
                have hs9 : k3 < w8.heap.size ∧ lq < w8.heap.size := ⟨T8.fin.lt, (T8.list.lt _ rfl).2⟩
                have hne9 := N8.lt
                have P9 := N8.alloc (.cells (dnCells noDn) 44)
                refine ⟨T9, ?_⟩
                simp only [Act.put, List.setIfInBounds_toArray, List.set_cons_zero, List.set_cons_succ]
                generalize w8.alloc (.cells (dnCells noDn) 44) = w9 at *
                refine any_one (i := 18) (by kernel_rfl) ?_
                refine store_op (oi := ⟨none, .store _ (.tmp 11) (.tmp 50), _, _, _, _⟩) rfl rfl rfl 38 (.tmp 11) (.tmp 50) rfl rfl rfl HIB.out HSB.out (hrt_one _) (Has.of P9 (n := 34) rfl) ?_
                intro wA10 bA10 kA10
                have TA10 := T9.far kA10 hs8.1 (fun e => by have e2 := Option.some.inj (show some lq = some _ from e); have := hs8.2; omega)
                refine ⟨TA10, ?_⟩
                have QA10 := N9.far kA10 (by omega)
                refine any_one (i := 19) (by kernel_rfl) ?_
                refine store_op (oi := ⟨none, .store _ (.tmp 12) (.tmp 51), _, _, _, _⟩) rfl rfl rfl 44 (.tmp 12) (.tmp 51) rfl rfl rfl (by kernel_rfl) rfl (dn_one _) (Has.of QA10 (n := 16) rfl) ?_
                intro wB10 bB10 kB10
                have TB10 := TA10.far kB10 hs9.1 (fun e => by have e2 := Option.some.inj (show some lq = some _ from e); have := hs9.2; omega)
                refine ⟨TB10, ?_⟩
                refine wpAnyH_done (by kernel_rfl) ?_ _
                have hq10 := hend _ _ _ ⟨TB10, bA10.far kB10 (by omega), bB10⟩
                simp only [Act.put, List.setIfInBounds_toArray, List.set_cons_zero, List.set_cons_succ] at hq10
                exact hq10
            · refine alloc_op (oi := ⟨some 12, .alloc _, _, _, _, _⟩) (cs := dnCells noDn) rfl rfl rfl (by kernel_rfl) ?_
              have T11 := T7.new (.cells (dnCells noDn) 44)
              have N11 := Blk.new (dnCells noDn) 44 w7
              have hs11 : k3 < w7.heap.size ∧ lq < w7.heap.size := ⟨T7.fin.lt, (T7.list.lt _ rfl).2⟩
              refine ⟨T11, ?_⟩
              simp only [Act.put, List.setIfInBounds_toArray, List.set_cons_zero, List.set_cons_succ]
              generalize w7.alloc (.cells (dnCells noDn) 44) = w11 at *
              refine any_one (i := 16) (by kernel_rfl) ?_
              · refine alloc_op (oi := ⟨some 11, .alloc _, _, _, _, _⟩) (cs := hrtCells zerH) rfl rfl rfl (by kernel_rfl) ?_
                have T12 := T11.new (.cells (hrtCells zerH) 38)
                have N12 := Blk.new (hrtCells zerH) 38 w11
                have hs12 : k3 < w11.heap.size ∧ lq < w11.heap.size := ⟨T11.fin.lt, (T11.list.lt _ rfl).2⟩
                have hne12 := N11.lt
                have Q12 := N11.alloc (.cells (hrtCells zerH) 38)
                refine ⟨T12, ?_⟩
                simp only [Act.put, List.setIfInBounds_toArray, List.set_cons_zero, List.set_cons_succ]
                generalize w11.alloc (.cells (hrtCells zerH) 38) = w12 at *
                refine any_one (i := 18) (by kernel_rfl) ?_
                refine store_op (oi := ⟨none, .store _ (.tmp 11) (.tmp 50), _, _, _, _⟩) rfl rfl rfl 38 (.tmp 11) (.tmp 50) rfl rfl rfl HIB.out HSB.out (hrt_one _) (Has.of N12 (n := 34) rfl) ?_
                intro wA13 bA13 kA13
                have TA13 := T12.far kA13 hs12.1 (fun e => by have e2 := Option.some.inj (show some lq = some _ from e); have := hs12.2; omega)
                refine ⟨TA13, ?_⟩
                have QA13 := Q12.far kA13 (by omega)
                refine any_one (i := 19) (by kernel_rfl) ?_
                refine store_op (oi := ⟨none, .store _ (.tmp 12) (.tmp 51), _, _, _, _⟩) rfl rfl rfl 44 (.tmp 12) (.tmp 51) rfl rfl rfl (by kernel_rfl) rfl (dn_one _) (Has.of QA13 (n := 16) rfl) ?_
                intro wB13 bB13 kB13
                have TB13 := TA13.far kB13 hs11.1 (fun e => by have e2 := Option.some.inj (show some lq = some _ from e); have := hs11.2; omega)
                refine ⟨TB13, ?_⟩
                refine wpAnyH_done (by kernel_rfl) ?_ _
                have hq13 := hend _ _ _ ⟨TB13, bA13.far kB13 (by omega), bB13⟩
                simp only [Act.put, List.setIfInBounds_toArray, List.set_cons_zero, List.set_cons_succ] at hq13
                exact hq13
          · refine alloc_op (oi := ⟨some 11, .alloc _, _, _, _, _⟩) (cs := hrtCells zerH) rfl rfl rfl (by kernel_rfl) ?_
            have T14 := TD.new (.cells (hrtCells zerH) 38)
            have N14 := Blk.new (hrtCells zerH) 38 w7
            have hs14 : k3 < w7.heap.size ∧ lq < w7.heap.size := ⟨TD.fin.lt, (TD.list.lt _ rfl).2⟩
            refine ⟨T14, ?_⟩
            simp only [Act.put, List.setIfInBounds_toArray, List.set_cons_zero, List.set_cons_succ]
            generalize w7.alloc (.cells (hrtCells zerH) 38) = w14 at *
            refine any_two (i := 12) (j := 17) (by kernel_rfl) ?_ ?_
            · refine call_op (oi := ⟨some 49, .call _, _, _, _, _⟩) rfl rfl (by first | rfl | kernel_rfl) (KS1 _ T14.bw) ?_
              rintro e w15 ⟨rfl, hb15⟩
              have T15 := T14.on hb15
              have P15 := N14.on hb15
              refine ⟨_, rfl, T15, ?_⟩
              simp only [Act.put, List.setIfInBounds_toArray, List.set_cons_zero, List.set_cons_succ]
              refine held_val (i := 13) (oi := ⟨some 36, .move (.tmp 49), _, _, _, _⟩) (.tuple #[.agg (hrtCells hn1), .agg (dnCells dn)]) rfl (by kernel_rfl) (by kernel_rfl) (by kernel_rfl) (fun _ _ _ h => h) rfl (fun _ _ => rfl) T15 ?_
              simp only [Act.put, List.setIfInBounds_toArray, List.set_cons_zero, List.set_cons_succ]
              refine held_val (i := 14) (oi := ⟨some 50, .extract (.tmp 36) 0, _, _, _, _⟩) (.agg (hrtCells hn1)) rfl (by kernel_rfl) (by kernel_rfl) (by kernel_rfl) (fun _ _ _ h => h) rfl (fun _ _ => rfl) T15 ?_
              simp only [Act.put, List.setIfInBounds_toArray, List.set_cons_zero, List.set_cons_succ]
              refine held_val (i := 15) (oi := ⟨some 51, .extract (.tmp 36) 1, _, _, _, _⟩) (.agg (dnCells dn)) rfl (by kernel_rfl) (by kernel_rfl) (by kernel_rfl) (fun _ _ _ h => h) rfl (fun _ _ => rfl) T15 ?_
              simp only [Act.put, List.setIfInBounds_toArray, List.set_cons_zero, List.set_cons_succ]
              refine any_one (i := 17) (by kernel_rfl) ?_
              · refine alloc_op (oi := ⟨some 12, .alloc _, _, _, _, _⟩) (cs := dnCells noDn) rfl rfl rfl (by kernel_rfl) ?_
                have T16 := T15.new (.cells (dnCells noDn) 44)
                have N16 := Blk.new (dnCells noDn) 44 w15
                have hs16 : k3 < w15.heap.size ∧ lq < w15.heap.size := ⟨T15.fin.lt, (T15.list.lt _ rfl).2⟩
                have hne16 := P15.lt
                have P16 := P15.alloc (.cells (dnCells noDn) 44)
                refine ⟨T16, ?_⟩
                simp only [Act.put, List.setIfInBounds_toArray, List.set_cons_zero, List.set_cons_succ]
                generalize w15.alloc (.cells (dnCells noDn) 44) = w16 at *
                refine any_one (i := 18) (by kernel_rfl) ?_
                refine store_op (oi := ⟨none, .store _ (.tmp 11) (.tmp 50), _, _, _, _⟩) rfl rfl rfl 38 (.tmp 11) (.tmp 50) rfl rfl rfl HIB.out HSB.out (hrt_one _) (Has.of P16 (n := 34) rfl) ?_
                intro wA17 bA17 kA17
                have TA17 := T16.far kA17 hs14.1 (fun e => by have e2 := Option.some.inj (show some lq = some _ from e); have := hs14.2; omega)
                refine ⟨TA17, ?_⟩
                have QA17 := N16.far kA17 (by omega)
                refine any_one (i := 19) (by kernel_rfl) ?_
                refine store_op (oi := ⟨none, .store _ (.tmp 12) (.tmp 51), _, _, _, _⟩) rfl rfl rfl 44 (.tmp 12) (.tmp 51) rfl rfl rfl (by kernel_rfl) rfl (dn_one _) (Has.of QA17 (n := 16) rfl) ?_
                intro wB17 bB17 kB17
                have TB17 := TA17.far kB17 hs16.1 (fun e => by have e2 := Option.some.inj (show some lq = some _ from e); have := hs16.2; omega)
                refine ⟨TB17, ?_⟩
                refine wpAnyH_done (by kernel_rfl) ?_ _
                have hq17 := hend _ _ _ ⟨TB17, bA17.far kB17 (by omega), bB17⟩
                simp only [Act.put, List.setIfInBounds_toArray, List.set_cons_zero, List.set_cons_succ] at hq17
                exact hq17
            · refine alloc_op (oi := ⟨some 12, .alloc _, _, _, _, _⟩) (cs := dnCells noDn) rfl rfl rfl (by kernel_rfl) ?_
              have T18 := T14.new (.cells (dnCells noDn) 44)
              have N18 := Blk.new (dnCells noDn) 44 w14
              have hs18 : k3 < w14.heap.size ∧ lq < w14.heap.size := ⟨T14.fin.lt, (T14.list.lt _ rfl).2⟩
              have hne18 := N14.lt
              have P18 := N14.alloc (.cells (dnCells noDn) 44)
              refine ⟨T18, ?_⟩
              simp only [Act.put, List.setIfInBounds_toArray, List.set_cons_zero, List.set_cons_succ]
              generalize w14.alloc (.cells (dnCells noDn) 44) = w18 at *
              refine any_one (i := 12) (by kernel_rfl) ?_
              · refine call_op (oi := ⟨some 49, .call _, _, _, _, _⟩) rfl rfl (by first | rfl | kernel_rfl) (KS1 _ T18.bw) ?_
                rintro e w19 ⟨rfl, hb19⟩
                have T19 := T18.on hb19
                have P19 := P18.on hb19
                have Q19 := N18.on hb19
                refine ⟨_, rfl, T19, ?_⟩
                simp only [Act.put, List.setIfInBounds_toArray, List.set_cons_zero, List.set_cons_succ]
                refine held_val (i := 13) (oi := ⟨some 36, .move (.tmp 49), _, _, _, _⟩) (.tuple #[.agg (hrtCells hn1), .agg (dnCells dn)]) rfl (by kernel_rfl) (by kernel_rfl) (by kernel_rfl) (fun _ _ _ h => h) rfl (fun _ _ => rfl) T19 ?_
                simp only [Act.put, List.setIfInBounds_toArray, List.set_cons_zero, List.set_cons_succ]
                refine held_val (i := 14) (oi := ⟨some 50, .extract (.tmp 36) 0, _, _, _, _⟩) (.agg (hrtCells hn1)) rfl (by kernel_rfl) (by kernel_rfl) (by kernel_rfl) (fun _ _ _ h => h) rfl (fun _ _ => rfl) T19 ?_
                simp only [Act.put, List.setIfInBounds_toArray, List.set_cons_zero, List.set_cons_succ]
                refine held_val (i := 15) (oi := ⟨some 51, .extract (.tmp 36) 1, _, _, _, _⟩) (.agg (dnCells dn)) rfl (by kernel_rfl) (by kernel_rfl) (by kernel_rfl) (fun _ _ _ h => h) rfl (fun _ _ => rfl) T19 ?_
                simp only [Act.put, List.setIfInBounds_toArray, List.set_cons_zero, List.set_cons_succ]
                refine any_one (i := 18) (by kernel_rfl) ?_
                refine store_op (oi := ⟨none, .store _ (.tmp 11) (.tmp 50), _, _, _, _⟩) rfl rfl rfl 38 (.tmp 11) (.tmp 50) rfl rfl rfl HIB.out HSB.out (hrt_one _) (Has.of P19 (n := 34) rfl) ?_
                intro wA20 bA20 kA20
                have TA20 := T19.far kA20 hs14.1 (fun e => by have e2 := Option.some.inj (show some lq = some _ from e); have := hs14.2; omega)
                refine ⟨TA20, ?_⟩
                have QA20 := Q19.far kA20 (by omega)
                refine any_one (i := 19) (by kernel_rfl) ?_
                refine store_op (oi := ⟨none, .store _ (.tmp 12) (.tmp 51), _, _, _, _⟩) rfl rfl rfl 44 (.tmp 12) (.tmp 51) rfl rfl rfl (by kernel_rfl) rfl (dn_one _) (Has.of QA20 (n := 16) rfl) ?_
                intro wB20 bB20 kB20
                have TB20 := TA20.far kB20 hs18.1 (fun e => by have e2 := Option.some.inj (show some lq = some _ from e); have := hs18.2; omega)
                refine ⟨TB20, ?_⟩
                refine wpAnyH_done (by kernel_rfl) ?_ _
                have hq20 := hend _ _ _ ⟨TB20, bA20.far kB20 (by omega), bB20⟩
                simp only [Act.put, List.setIfInBounds_toArray, List.set_cons_zero, List.set_cons_succ] at hq20
                exact hq20
          · refine alloc_op (oi := ⟨some 12, .alloc _, _, _, _, _⟩) (cs := dnCells noDn) rfl rfl rfl (by kernel_rfl) ?_
            have T21 := TD.new (.cells (dnCells noDn) 44)
            have N21 := Blk.new (dnCells noDn) 44 w7
            have hs21 : k3 < w7.heap.size ∧ lq < w7.heap.size := ⟨TD.fin.lt, (TD.list.lt _ rfl).2⟩
            refine ⟨T21, ?_⟩
            simp only [Act.put, List.setIfInBounds_toArray, List.set_cons_zero, List.set_cons_succ]
            generalize w7.alloc (.cells (dnCells noDn) 44) = w21 at *
            refine any_two (i := 12) (j := 16) (by kernel_rfl) ?_ ?_
            · refine call_op (oi := ⟨some 49, .call _, _, _, _, _⟩) rfl rfl (by first | rfl | kernel_rfl) (KS1 _ T21.bw) ?_
              rintro e w22 ⟨rfl, hb22⟩
              have T22 := T21.on hb22
              have Q22 := N21.on hb22
              refine ⟨_, rfl, T22, ?_⟩
              simp only [Act.put, List.setIfInBounds_toArray, List.set_cons_zero, List.set_cons_succ]
              refine held_val (i := 13) (oi := ⟨some 36, .move (.tmp 49), _, _, _, _⟩) (.tuple #[.agg (hrtCells hn1), .agg (dnCells dn)]) rfl (by kernel_rfl) (by kernel_rfl) (by kernel_rfl) (fun _ _ _ h => h) rfl (fun _ _ => rfl) T22 ?_
              simp only [Act.put, List.setIfInBounds_toArray, List.set_cons_zero, List.set_cons_succ]
              refine held_val (i := 14) (oi := ⟨some 50, .extract (.tmp 36) 0, _, _, _, _⟩) (.agg (hrtCells hn1)) rfl (by kernel_rfl) (by kernel_rfl) (by kernel_rfl) (fun _ _ _ h => h) rfl (fun _ _ => rfl) T22 ?_
              simp only [Act.put, List.setIfInBounds_toArray, List.set_cons_zero, List.set_cons_succ]
              refine held_val (i := 15) (oi := ⟨some 51, .extract (.tmp 36) 1, _, _, _, _⟩) (.agg (dnCells dn)) rfl (by kernel_rfl) (by kernel_rfl) (by kernel_rfl) (fun _ _ _ h => h) rfl (fun _ _ => rfl) T22 ?_
              simp only [Act.put, List.setIfInBounds_toArray, List.set_cons_zero, List.set_cons_succ]
              refine any_one (i := 16) (by kernel_rfl) ?_
              · refine alloc_op (oi := ⟨some 11, .alloc _, _, _, _, _⟩) (cs := hrtCells zerH) rfl rfl rfl (by kernel_rfl) ?_
                have T23 := T22.new (.cells (hrtCells zerH) 38)
                have N23 := Blk.new (hrtCells zerH) 38 w22
                have hs23 : k3 < w22.heap.size ∧ lq < w22.heap.size := ⟨T22.fin.lt, (T22.list.lt _ rfl).2⟩
                have hne23 := Q22.lt
                have Q23 := Q22.alloc (.cells (hrtCells zerH) 38)
                refine ⟨T23, ?_⟩
                simp only [Act.put, List.setIfInBounds_toArray, List.set_cons_zero, List.set_cons_succ]
                generalize w22.alloc (.cells (hrtCells zerH) 38) = w23 at *
                refine any_one (i := 18) (by kernel_rfl) ?_
                refine store_op (oi := ⟨none, .store _ (.tmp 11) (.tmp 50), _, _, _, _⟩) rfl rfl rfl 38 (.tmp 11) (.tmp 50) rfl rfl rfl HIB.out HSB.out (hrt_one _) (Has.of N23 (n := 34) rfl) ?_
                intro wA24 bA24 kA24
                have TA24 := T23.far kA24 hs23.1 (fun e => by have e2 := Option.some.inj (show some lq = some _ from e); have := hs23.2; omega)
                refine ⟨TA24, ?_⟩
                have QA24 := Q23.far kA24 (by omega)
                refine any_one (i := 19) (by kernel_rfl) ?_
                refine store_op (oi := ⟨none, .store _ (.tmp 12) (.tmp 51), _, _, _, _⟩) rfl rfl rfl 44 (.tmp 12) (.tmp 51) rfl rfl rfl (by kernel_rfl) rfl (dn_one _) (Has.of QA24 (n := 16) rfl) ?_
                intro wB24 bB24 kB24
                have TB24 := TA24.far kB24 hs21.1 (fun e => by have e2 := Option.some.inj (show some lq = some _ from e); have := hs21.2; omega)
                refine ⟨TB24, ?_⟩
                refine wpAnyH_done (by kernel_rfl) ?_ _
                have hq24 := hend _ _ _ ⟨TB24, bA24.far kB24 (by omega), bB24⟩
                simp only [Act.put, List.setIfInBounds_toArray, List.set_cons_zero, List.set_cons_succ] at hq24
                exact hq24
            · refine alloc_op (oi := ⟨some 11, .alloc _, _, _, _, _⟩) (cs := hrtCells zerH) rfl rfl rfl (by kernel_rfl) ?_
              have T25 := T21.new (.cells (hrtCells zerH) 38)
              have N25 := Blk.new (hrtCells zerH) 38 w21
              have hs25 : k3 < w21.heap.size ∧ lq < w21.heap.size := ⟨T21.fin.lt, (T21.list.lt _ rfl).2⟩
              have hne25 := N21.lt
              have Q25 := N21.alloc (.cells (hrtCells zerH) 38)
              refine ⟨T25, ?_⟩
              simp only [Act.put, List.setIfInBounds_toArray, List.set_cons_zero, List.set_cons_succ]
              generalize w21.alloc (.cells (hrtCells zerH) 38) = w25 at *
              refine any_one (i := 12) (by kernel_rfl) ?_
              · refine call_op (oi := ⟨some 49, .call _, _, _, _, _⟩) rfl rfl (by first | rfl | kernel_rfl) (KS1 _ T25.bw) ?_
                rintro e w26 ⟨rfl, hb26⟩
                have T26 := T25.on hb26
                have P26 := N25.on hb26
                have Q26 := Q25.on hb26
                refine ⟨_, rfl, T26, ?_⟩
                simp only [Act.put, List.setIfInBounds_toArray, List.set_cons_zero, List.set_cons_succ]
                refine held_val (i := 13) (oi := ⟨some 36, .move (.tmp 49), _, _, _, _⟩) (.tuple #[.agg (hrtCells hn1), .agg (dnCells dn)]) rfl (by kernel_rfl) (by kernel_rfl) (by kernel_rfl) (fun _ _ _ h => h) rfl (fun _ _ => rfl) T26 ?_
                simp only [Act.put, List.setIfInBounds_toArray, List.set_cons_zero, List.set_cons_succ]
                refine held_val (i := 14) (oi := ⟨some 50, .extract (.tmp 36) 0, _, _, _, _⟩) (.agg (hrtCells hn1)) rfl (by kernel_rfl) (by kernel_rfl) (by kernel_rfl) (fun _ _ _ h => h) rfl (fun _ _ => rfl) T26 ?_
                simp only [Act.put, List.setIfInBounds_toArray, List.set_cons_zero, List.set_cons_succ]
                refine held_val (i := 15) (oi := ⟨some 51, .extract (.tmp 36) 1, _, _, _, _⟩) (.agg (dnCells dn)) rfl (by kernel_rfl) (by kernel_rfl) (by kernel_rfl) (fun _ _ _ h => h) rfl (fun _ _ => rfl) T26 ?_
                simp only [Act.put, List.setIfInBounds_toArray, List.set_cons_zero, List.set_cons_succ]
                refine any_one (i := 18) (by kernel_rfl) ?_
                refine store_op (oi := ⟨none, .store _ (.tmp 11) (.tmp 50), _, _, _, _⟩) rfl rfl rfl 38 (.tmp 11) (.tmp 50) rfl rfl rfl HIB.out HSB.out (hrt_one _) (Has.of P26 (n := 34) rfl) ?_
                intro wA27 bA27 kA27
                have TA27 := T26.far kA27 hs25.1 (fun e => by have e2 := Option.some.inj (show some lq = some _ from e); have := hs25.2; omega)
                refine ⟨TA27, ?_⟩
                have QA27 := Q26.far kA27 (by omega)
                refine any_one (i := 19) (by kernel_rfl) ?_
                refine store_op (oi := ⟨none, .store _ (.tmp 12) (.tmp 51), _, _, _, _⟩) rfl rfl rfl 44 (.tmp 12) (.tmp 51) rfl rfl rfl (by kernel_rfl) rfl (dn_one _) (Has.of QA27 (n := 16) rfl) ?_
                intro wB27 bB27 kB27
                have TB27 := TA27.far kB27 hs21.1 (fun e => by have e2 := Option.some.inj (show some lq = some _ from e); have := hs21.2; omega)
                refine ⟨TB27, ?_⟩
                refine wpAnyH_done (by kernel_rfl) ?_ _
                have hq27 := hend _ _ _ ⟨TB27, bA27.far kB27 (by omega), bB27⟩
                simp only [Act.put, List.setIfInBounds_toArray, List.set_cons_zero, List.set_cons_succ] at hq27
                exact hq27
      · obtain rfl : i = m := by have := HK.out; omega
        have TM := TI.out
        rw [HSQ.out.1] at TM
        have KAM := KA _ TM.bw
        have KE2 := KE.out
        rw [hrtEq_self] at KE2
        have himI : ¬ (i : Int) < i := by omega
        have HLEN := Lib.hid TM
        clear TI KS KA HSQ HOK HSA
        go_wp2_with (first
          | (go_at_call 18; refine KAM.mono ?_; rintro e w9 ⟨rfl, hb9⟩; have T9 := TM.on hb9; clear hb9)
          | (refine val_arm (o := ⟨some 61, _, _, _, _, _⟩) (by kernel_rfl) (exec_load_all 38 (.tmp 7) rfl rfl T9.fin Tryz.underlying38 rfl HI1.out) ?_)
          | (refine val_arm (o := ⟨some 62, _, _, _, _, _⟩) (by kernel_rfl) (exec_load_all 38 (.tmp 3) rfl rfl T9.hart Tryz.underlying38 rfl HI1.out) ?_)
          | (refine val_arm (o := ⟨some 63, _, _, _, _, _⟩) (by kernel_rfl) (exec_cmp rfl guard_hrt rfl rfl (KE2 _)) ?_))
        go_ret
        exact ⟨rfl, T9.bw⟩
  · have d1 : decide ((1024 : Int) < B.length) = true := decide_eq_true (by omega)
    clear T hb hr hw
    go_enter Tryz.func8, Tryz.ntmps8
    go_upto_region 1 with (fail)
    generalize W.alloc (.cells _ 38) = w1 at *
    go_upto_region 3 with (first
      | (go_at_call 18; refine (KA _ HB1.out).mono ?_; rintro e w2 ⟨rfl, hb2⟩; have HB2 := Lib.hid (HB1.out.on hb2); clear hb2))
    go_wp2_with (first
      | (go_at_call 18; refine (KA _ HB2.out).mono ?_; rintro e w3 ⟨rfl, hb3⟩; have HB3 := Lib.hid (HB2.out.on hb3); clear hb3))
    go_ret
    exact ⟨rfl, HB3.out⟩
end Go.Proofs.YtolmecnjolfjgaaGreatDoor
