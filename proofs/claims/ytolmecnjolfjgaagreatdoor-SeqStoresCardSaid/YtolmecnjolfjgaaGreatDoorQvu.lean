/- Layer 11: SeqStores. -/
import Derived.Test.YtolmecnjolfjgaaGreatDoorQku
set_option linter.unusedVariables false
set_option maxRecDepth 100000
namespace Go.Proofs.YtolmecnjolfjgaaGreatDoor
open Go.RowKit

theorem eights {at_ : Int} (h : 0 ≤ at_ ∧ at_ < 256) : ∃ j : Int, 0 ≤ j ∧ j < 8 ∧ at_ / 8 * 8 % 64 = 8 * j := ⟨at_ / 8 % 8, by omega, by omega, by omega⟩
/-- What Alone gives upon the hart of SeqStores. -/
theorem sta_alone {img : List Int} {st ld : Int} {n : Nat} {value addr : Int} (hs : Sta img st ld n value addr) (hl : img.length = 64) (hb : ∀ b ∈ img, 0 ≤ b ∧ b < 256) (hv : U64 value) (ha : U64 addr) (x : World) (g : Nat) (T : Tab11 x) (h : Blk (cellsB img).toArray 5 g x) :
    Calls Tryz.prog 23 #[.agg (hrtCells (staH value addr)), .slice (some ⟨g, 0, none⟩) 64 64, .int .i64 5] x fun e w' =>
      ∃ b q c, e = .returned (.tuple #[.agg (hrtCells (aloK img (staH value addr) 5).h), .slice (some ⟨b, 0, none⟩) 64 64, .slice (some ⟨q, 0, none⟩) 3 c]) ∧ BW x w' := by
  have hc := alone_c (staH value addr) (some ⟨g, 0, none⟩) 64 img 5 x T (img_blk h hl hb (by decide)) (sta_wh hv ha) (by decide)
  rw [hl] at hc
  refine hc.mono ?_
  rintro e w' ⟨v, n, rfl, hn, hm, hl, hb⟩
  rw [show (5 : Int).toNat = 5 from rfl] at *
  rw [hs.mlen] at hn
  subst hn
  rw [hs.dlen] at hl
  obtain ⟨q, c, rfl, hq, hq2⟩ := hl.form (by decide)
  exact ⟨_, q, c, rfl, hb⟩
theorem img_l11a : img11a.length = 64 := by kernel_rfl
theorem img_b11a : ∀ b ∈ img11a, 0 ≤ b ∧ b < 256 := by decide
theorem sta_any11a (value : Int) {j : Int} (h0 : 0 ≤ j) (h : j < 8) : Sta img11a 18 15 1 value (8 * j) := by
  have hj : j = 0 ∨ j = 1 ∨ j = 2 ∨ j = 3 ∨ j = 4 ∨ j = 5 ∨ j = 6 ∨ j = 7 := by omega
  rcases hj with rfl | rfl | rfl | rfl | rfl | rfl | rfl | rfl
  · exact sta11a_0 value
  · exact sta11a_1 value
  · exact sta11a_2 value
  · exact sta11a_3 value
  · exact sta11a_4 value
  · exact sta11a_5 value
  · exact sta11a_6 value
  · exact sta11a_7 value
theorem img_l11b : img11b.length = 64 := by kernel_rfl
theorem img_b11b : ∀ b ∈ img11b, 0 ≤ b ∧ b < 256 := by decide
theorem sta_any11b (value : Int) {j : Int} (h0 : 0 ≤ j) (h : j < 8) : Sta img11b 19 16 2 value (8 * j) := by
  have hj : j = 0 ∨ j = 1 ∨ j = 2 ∨ j = 3 ∨ j = 4 ∨ j = 5 ∨ j = 6 ∨ j = 7 := by omega
  rcases hj with rfl | rfl | rfl | rfl | rfl | rfl | rfl | rfl
  · exact sta11b_0 value
  · exact sta11b_1 value
  · exact sta11b_2 value
  · exact sta11b_3 value
  · exact sta11b_4 value
  · exact sta11b_5 value
  · exact sta11b_6 value
  · exact sta11b_7 value
theorem img_l11c : img11c.length = 64 := by kernel_rfl
theorem img_b11c : ∀ b ∈ img11c, 0 ≤ b ∧ b < 256 := by decide
theorem sta_any11c (value : Int) {j : Int} (h0 : 0 ≤ j) (h : j < 8) : Sta img11c 20 17 4 value (8 * j) := by
  have hj : j = 0 ∨ j = 1 ∨ j = 2 ∨ j = 3 ∨ j = 4 ∨ j = 5 ∨ j = 6 ∨ j = 7 := by omega
  rcases hj with rfl | rfl | rfl | rfl | rfl | rfl | rfl | rfl
  · exact sta11c_0 value
  · exact sta11c_1 value
  · exact sta11c_2 value
  · exact sta11c_3 value
  · exact sta11c_4 value
  · exact sta11c_5 value
  · exact sta11c_6 value
  · exact sta11c_7 value
theorem img_l11d : img11d.length = 64 := by kernel_rfl
theorem img_b11d : ∀ b ∈ img11d, 0 ≤ b ∧ b < 256 := by decide
theorem sta_any11d (value : Int) {j : Int} (h0 : 0 ≤ j) (h : j < 8) : Sta img11d 21 14 8 value (8 * j) := by
  have hj : j = 0 ∨ j = 1 ∨ j = 2 ∨ j = 3 ∨ j = 4 ∨ j = 5 ∨ j = 6 ∨ j = 7 := by omega
  rcases hj with rfl | rfl | rfl | rfl | rfl | rfl | rfl | rfl
  · exact sta11d_0 value
  · exact sta11d_1 value
  · exact sta11d_2 value
  · exact sta11d_3 value
  · exact sta11d_4 value
  · exact sta11d_5 value
  · exact sta11d_6 value
  · exact sta11d_7 value
set_option maxHeartbeats 4000000 in
theorem stores_a {W : World} (T : TabQ W) (at_ value n_ : Int) (hat : 0 ≤ at_ ∧ at_ < 256) (hv : U64 value) (hn : 0 ≤ n_ ∧ n_ < 256) (hk : n_ % 4 = 0) {j : Int} (hj0 : 0 ≤ j) (hj8 : j < 8) (hja : at_ / 8 * 8 % 64 = 8 * j) (hadr : U64 (8 * j)) :
    Calls Tryz.prog 9 #[.int .u8 at_, .int .u64 value, .int .u8 n_] W fun e w' => e = .returned (.bool true) ∧ Below W.heap.size W w' := by
  have KA := fun x (hx : BW W x) => (alive11_any T x hx).mono fun e w' ⟨h1, _, h3⟩ => (⟨h1, h3⟩ : _ ∧ Below x.heap.size x w')
  have KB : ∀ x, BW W x → Calls Tryz.prog 16 #[.string ⟨#[115, 98, 32, 120, 49, 44, 32, 48, 40, 120, 50, 41, 10, 108, 98, 117, 32, 120, 51, 44, 32, 48, 40, 120, 50, 41, 10, 104, 97, 108, 116]⟩, .int .i64 64] x (RetAsm x 64 [] (cellsB img11a)) := fun x hx => asm11a x (T.rd.below hx) (T.t7.below hx)
  have hsta := sta_any11a value hj0 hj8
  have KQ := fun x g (hx : BW W x) (hg : Blk (cellsB img11a).toArray 5 g x) => sta_alone hsta img_l11a img_b11a hv hadr x g (T.t11.below hx) hg
  have hx3 := hsta.x3.trans (sta_val img_l11a (by decide) (by decide) (by decide) (by decide) (by decide) (by decide) hv (by omega) (by omega))
  have hcs := hsta.cause
  have hxl := hsta.xlen
  have KZ : ∀ x, BW W x → Calls Tryz.prog 26 #[.int .i64 18] x fun e w' => e = .returned (.int .i64 1) ∧ Below x.heap.size x w' := fun x hx => (rsize_any 18 (by decide) (by decide) x).mono fun _ _ h => h
  have KX : ∀ x, Calls Tryz.prog 27 #[.int .u64 value, .int .i64 8] x fun e w' => e = .returned (.int .u64 (zx value (8 * 1))) ∧ x = w' := fun x => rzext_any value 8 hv.1 hv.lt x
  generalize aloK img11a (staH value (8 * j)) 5 = fin at *
  have HF4 : Hid ((hrtCells fin.h)[4]? = some (.int .u64 (zx value (8 * 1))) ∧ (hrtCells fin.h)[33]? = some (.int .i64 2)) := ⟨by have := hrtC_x hxl (r := 3) (by decide); rw [hx3] at this; exact this, by rw [hrtC_cause hxl, hcs]⟩
  have HI := Lib.hid (hrt_info hxl)
  have HIS : Hid _ := hrt_info (h := staH value (8 * j)) (by simp [staH])
  have KP := fun w3 : World => (Has.of (Blk.new (hrtCells zerH) 38 w3) (n := 34) rfl).put (P := Tryz.prog) (hrtCells fin.h) (hrtC_size hxl) (hrt_one _) (ty := 38) (hrt_info hxl)
  have KN := fun w3 : World => (Has.of (Blk.new (hrtCells zerH) 38 w3) (n := 34) rfl).put (P := Tryz.prog) (hrtCells zerH) rfl (hrt_one _) (ty := 38) (by kernel_rfl)
  have HS1 : Hid ((hrtCells zerH).setIfInBounds 2 (.int .u64 value) = hrtCells ⟨0, (List.replicate 32 0).set 1 value, 0⟩) := hrtC_setx (h := zerH) rfl (r := 1) (by decide) value
  have HS2 : Hid ((hrtCells ⟨0, (List.replicate 32 0).set 1 value, 0⟩).setIfInBounds 3 (.int .u64 (8 * j)) = hrtCells (staH value (8 * j))) := hrtC_setx (h := ⟨0, (List.replicate 32 0).set 1 value, 0⟩) (by simp) (r := 2) (by decide) (8 * j)
  have HQ0 : Hid ((hrtCells zerH)[2]? = some (.int .u64 0)) := rfl
  have HQ1 : Hid ((hrtCells ⟨0, (List.replicate 32 0).set 1 value, 0⟩)[3]? = some (.int .u64 0)) := (show _ = _ by kernel_rfl)
  clear hsta hx3 hcs hxl
  clear T
  have hW0 : Hid (BW W W) := Below.refl _ _
  go_enter Tryz.func9, Tryz.ntmps9
  go_upto_region 4 with (first
    | (go_at_call 18; refine (KA _ hW0.out).mono ?_; rintro e w2 ⟨rfl, hb2⟩; have HB2 := Lib.hid (hW0.out.on hb2); clear hb2))
  go_upto_region 5 with (fail)
  rw [hja]
  go_upto_region 7 with (first
    | (go_at_call 16; refine (KB _ (HB2.out.new _)).mono ?_; rintro e w3 ⟨g, v, rfl, hc, hg, hrow, hb3⟩; have HB3 := (HB2.out.new _).on hb3; have HC3 : Blk (cellsB img11a).toArray 5 g w3 := hc; clear hc hg hrow hb3; obtain ⟨w4, e4, b4, k4⟩ := KN w3))
  have HB4 : Hid (BW W w4) := HB3.on (((Below.refl w3.heap.size w3).alloc (Nat.le_refl _) _).grown k4 (by simp) (fun r hr => by cases hr; exact Nat.le_refl _))
  have HC4 := (HC3.alloc (.cells (hrtCells zerH) 38)).far k4 (by have := HC3.lt; omega)
  have hgs : g < w3.heap.size := HC3.lt
  have hws : W.heap.size ≤ w3.heap.size := Below.size HB3
  clear HB3 HC3 k4 HB2 KB
  go_upto_region 8 with (first
    | (refine store_blk (o := ⟨none, .store _ (.tmp 14) (.tmp 40), _, _, _, _⟩) rfl 38 (.tmp 14) (.tmp 40) rfl rfl rfl e4 ?_))
  clear e4
  obtain ⟨gh, hgh⟩ : ∃ z, w3.heap.size = z := ⟨_, rfl⟩
  rw [hgh] at b4 hgs hws ⊢
  clear hgh
  have q4 := (b4.cell 2).trans HQ0.out
  have f4 := b4.free 2
  have b5 := b4.set 2 (.int .u64 value)
  rw [HS1.out] at b5
  have HB5 : Hid (BW W (w4.setCell ⟨gh, 2, none⟩ (.int .u64 value))) := Below.setCell HB4.out (by show _ ≤ gh; omega) _
  have HC5 := HC4.other (a := ⟨gh, 2, none⟩) (by show g ≠ gh; omega) (.int .u64 value)
  clear b4 HB4 HC4
  go_upto_region 9 with (fail)
  clear q4 f4
  generalize w4.setCell _ _ = w5 at *
  have q5 := (b5.cell 3).trans HQ1.out
  have f5 := b5.free 3
  have b6 := b5.set 3 (.int .u64 (8 * j))
  rw [HS2.out] at b6
  have HB6 : Hid (BW W (w5.setCell ⟨gh, 3, none⟩ (.int .u64 (8 * j)))) := Below.setCell HB5.out (by show _ ≤ gh; omega) _
  have HC6 := HC5.other (a := ⟨gh, 3, none⟩) (by show g ≠ gh; omega) (.int .u64 (8 * j))
  clear b5 HB5 HC5
  go_upto_region 10 with (fail)
  clear q5 f5
  generalize w5.setCell _ _ = w6 at *
  go_upto_region 11 with (first
    | (with_reducible refine load_blk (o := ⟨some 48, _, _, _, _, _⟩) rfl 38 (.tmp 14) rfl b6 rfl Tryz.underlying38 rfl HIS.out ?_)
    | (go_at_call 23; refine (KQ _ g HB6.out HC6).mono ?_; rintro e w7 ⟨bm, lq, lc, rfl, hb7⟩; have HB7 := HB6.out.on hb7; clear hb7; obtain ⟨w8, e8, b8, k8⟩ := KP w7)
    | (refine store_blk (o := ⟨none, .store _ (.tmp 15) (.tmp 51), _, _, _, _⟩) rfl 38 (.tmp 15) (.tmp 51) rfl rfl rfl e8 ?_))
  have HB8 : Hid (BW W w8) := HB7.on (((Below.refl w7.heap.size w7).alloc (Nat.le_refl _) _).grown k8 (by simp) (fun r hr => by cases hr; exact Nat.le_refl _))
  clear e8 k8 HB7 HB6 HC6 b6 KQ KP KN
  obtain ⟨g15, hg15⟩ : ∃ z, w7.heap.size = z := ⟨_, rfl⟩
  rw [hg15] at b8 ⊢
  clear hg15
  go_upto_region 12 with (first
    | (go_at_call 26; refine (KZ _ HB8.out).mono ?_; rintro e w9 ⟨rfl, hb9⟩; have HB9 := HB8.out.on hb9; have b9 := b8.on hb9; clear hb9))
  have HBX : BW W w9.drew := Below.drew HB9
  have BX := b9.drew
  clear HB9 b9 HB8 b8 KZ
  generalize hfh : fin.h = fh at *
  refine wp_region_held (S := fun x => BW W x ∧ Blk (hrtCells fh) 38 g15 x) (by kernel_rfl) ?_
  change wpAnyH _ _ _ _ _ _ _ _ (World.drew _)
  generalize World.drew _ = w10 at *
  refine any_one (i := 0) (by kernel_rfl) ?_
  refine call_op (oi := ⟨some 57, .call _, _, _, _, _⟩) rfl rfl (by first | rfl | kernel_rfl) (KA _ HBX) ?_
  rintro e w11 ⟨rfl, hb11⟩
  replace HBX := HBX.on hb11
  replace BX := BX.on hb11
  refine ⟨_, rfl, ⟨HBX, BX⟩, ?_⟩
  simp only [Act.put, List.setIfInBounds_toArray, List.set_cons_zero, List.set_cons_succ]
  clear hb11 KA
  refine held_valg (i := 1) (oi := ⟨some 58, .move (.tmp 57), _, _, _, _⟩) (.bool true) rfl (by kernel_rfl) (by kernel_rfl) (by kernel_rfl) (fun _ _ _ h => h) (by kernel_rfl) (fun _ _ => by kernel_rfl) ⟨HBX, BX⟩ ?_
  simp only [Act.put, List.setIfInBounds_toArray, List.set_cons_zero, List.set_cons_succ]
  refine held_valg (i := 2) (oi := ⟨some 59, .move (.tmp 13), _, _, _, _⟩) (.int .i64 0) rfl (by kernel_rfl) (by kernel_rfl) (by kernel_rfl) (fun _ _ _ h => h) (by kernel_rfl) (fun _ _ => by kernel_rfl) ⟨HBX, BX⟩ ?_
  simp only [Act.put, List.setIfInBounds_toArray, List.set_cons_zero, List.set_cons_succ]
  refine held_valg (i := 3) (oi := ⟨some 60, .binOp .eql _ (.tmp 59) _ _, _, _, _, _⟩) (.bool true) rfl (by kernel_rfl) (by kernel_rfl) (by kernel_rfl) (fun _ _ _ h => h) (by kernel_rfl) (fun _ _ => by kernel_rfl) ⟨HBX, BX⟩ ?_
  simp only [Act.put, List.setIfInBounds_toArray, List.set_cons_zero, List.set_cons_succ]
  refine held_valg (i := 4) (oi := ⟨some 61, .pick (.tmp 58) (.tmp 60) _, _, _, _, _⟩) (.bool true) rfl (by kernel_rfl) (by kernel_rfl) (by kernel_rfl) (fun _ _ _ h => h) (by kernel_rfl) (fun _ _ => by kernel_rfl) ⟨HBX, BX⟩ ?_
  simp only [Act.put, List.setIfInBounds_toArray, List.set_cons_zero, List.set_cons_succ]
  refine held_valg (i := 5) (oi := ⟨some 62, .move (.tmp 61), _, _, _, _⟩) (.bool true) rfl (by kernel_rfl) (by kernel_rfl) (by kernel_rfl) (fun _ _ _ h => h) (by kernel_rfl) (fun _ _ => by kernel_rfl) ⟨HBX, BX⟩ ?_
  simp only [Act.put, List.setIfInBounds_toArray, List.set_cons_zero, List.set_cons_succ]
  refine held_valg (i := 6) (oi := ⟨some 63, .move (.tmp 17), _, _, _, _⟩) (.slice (some ⟨lq, 0, none⟩) 3 lc) rfl (by kernel_rfl) (by kernel_rfl) (by kernel_rfl) (fun _ _ _ h => h) (by kernel_rfl) (fun _ _ => by kernel_rfl) ⟨HBX, BX⟩ ?_
  simp only [Act.put, List.setIfInBounds_toArray, List.set_cons_zero, List.set_cons_succ]
  refine held_valg (i := 7) (oi := ⟨some 64, .call _, _, _, _, _⟩) (.int .i64 3) rfl (by kernel_rfl) (by kernel_rfl) (by kernel_rfl) (fun _ _ _ h => h) (by kernel_rfl) (fun _ _ => by kernel_rfl) ⟨HBX, BX⟩ ?_
  simp only [Act.put, List.setIfInBounds_toArray, List.set_cons_zero, List.set_cons_succ]
  refine held_valg (i := 8) (oi := ⟨some 65, .binOp .eql _ (.tmp 64) _ _, _, _, _, _⟩) (.bool true) rfl (by kernel_rfl) (by kernel_rfl) (by kernel_rfl) (fun _ _ _ h => h) (by kernel_rfl) (fun _ _ => by kernel_rfl) ⟨HBX, BX⟩ ?_
  simp only [Act.put, List.setIfInBounds_toArray, List.set_cons_zero, List.set_cons_succ]
  refine held_valg (i := 9) (oi := ⟨some 66, .pick (.tmp 62) (.tmp 65) _, _, _, _, _⟩) (.bool true) rfl (by kernel_rfl) (by kernel_rfl) (by kernel_rfl) (fun _ _ _ h => h) (by kernel_rfl) (fun _ _ => by kernel_rfl) ⟨HBX, BX⟩ ?_
  simp only [Act.put, List.setIfInBounds_toArray, List.set_cons_zero, List.set_cons_succ]
  refine held_valg (i := 10) (oi := ⟨some 67, .move (.tmp 66), _, _, _, _⟩) (.bool true) rfl (by kernel_rfl) (by kernel_rfl) (by kernel_rfl) (fun _ _ _ h => h) (by kernel_rfl) (fun _ _ => by kernel_rfl) ⟨HBX, BX⟩ ?_
  simp only [Act.put, List.setIfInBounds_toArray, List.set_cons_zero, List.set_cons_succ]
  refine held_valg (i := 11) (oi := ⟨some 68, .fieldAddr _ (.tmp 15) 1, _, _, _, _⟩) (.pointer (some ⟨g15, 1, none⟩)) rfl (by kernel_rfl) (by kernel_rfl) (by kernel_rfl) (fun _ _ _ h => h) (by kernel_rfl) (fun _ _ => by kernel_rfl) ⟨HBX, BX⟩ ?_
  simp only [Act.put, List.setIfInBounds_toArray, List.set_cons_zero, List.set_cons_succ]
  refine held_valg (i := 12) (oi := ⟨some 69, .indexAddr _ (.tmp 68) _, _, _, _, _⟩) (.pointer (some ⟨g15, 4, none⟩)) rfl (by kernel_rfl) (by kernel_rfl) (by kernel_rfl) (fun _ _ _ h => h) (by kernel_rfl) (fun _ _ => by kernel_rfl) ⟨HBX, BX⟩ ?_
  simp only [Act.put, List.setIfInBounds_toArray, List.set_cons_zero, List.set_cons_succ]
  refine held_valg (i := 13) (oi := ⟨some 70, .load _ (.tmp 69), _, _, _, _⟩) (.int .u64 (zx value (8 * 1))) rfl (by kernel_rfl) (by kernel_rfl) (by kernel_rfl) (fun _ _ _ h => h) (by kernel_rfl) (fun x hx => exec_load_cell rfl rfl ((hx.2.cell 4).trans HF4.out.1) (by kernel_rfl)) ⟨HBX, BX⟩ ?_
  simp only [Act.put, List.setIfInBounds_toArray, List.set_cons_zero, List.set_cons_succ]
  refine held_valg (i := 14) (oi := ⟨some 71, .move (.tmp 1), _, _, _, _⟩) (.int .u64 value) rfl (by kernel_rfl) (by kernel_rfl) (by kernel_rfl) (fun _ _ _ h => h) (by kernel_rfl) (fun _ _ => by kernel_rfl) ⟨HBX, BX⟩ ?_
  simp only [Act.put, List.setIfInBounds_toArray, List.set_cons_zero, List.set_cons_succ]
  refine held_valg (i := 15) (oi := ⟨some 72, .move (.tmp 18), _, _, _, _⟩) (.int .i64 1) rfl (by kernel_rfl) (by kernel_rfl) (by kernel_rfl) (fun _ _ _ h => h) (by kernel_rfl) (fun _ _ => by kernel_rfl) ⟨HBX, BX⟩ ?_
  simp only [Act.put, List.setIfInBounds_toArray, List.set_cons_zero, List.set_cons_succ]
  refine held_valg (i := 16) (oi := ⟨some 73, .binOp .mul _ _ (.tmp 72) _, _, _, _, _⟩) (.int .i64 8) rfl (by kernel_rfl) (by kernel_rfl) (by kernel_rfl) (fun _ _ _ h => h) (by kernel_rfl) (fun _ _ => by kernel_rfl) ⟨HBX, BX⟩ ?_
  simp only [Act.put, List.setIfInBounds_toArray, List.set_cons_zero, List.set_cons_succ]
  refine any_one (i := 17) (by kernel_rfl) ?_
  refine call_opg (oi := ⟨some 74, .call _, _, _, _, _⟩) rfl (by kernel_rfl) (by first | rfl | kernel_rfl) (KX _) ?_
  rintro e w12 ⟨rfl, rfl⟩
  refine ⟨_, rfl, ⟨HBX, BX⟩, ?_⟩
  simp only [Act.put, List.setIfInBounds_toArray, List.set_cons_zero, List.set_cons_succ]
  refine held_valg (i := 18) (oi := ⟨some 75, .binOp .eql _ (.tmp 70) (.tmp 74) _, _, _, _, _⟩) (.bool true) rfl (by kernel_rfl) (by kernel_rfl) (by kernel_rfl) (fun _ _ _ h => h) (by kernel_rfl) (fun _ _ => exec_eq_u64 rfl rfl rfl) ⟨HBX, BX⟩ ?_
  simp only [Act.put, List.setIfInBounds_toArray, List.set_cons_zero, List.set_cons_succ]
  refine held_valg (i := 19) (oi := ⟨some 76, .pick (.tmp 67) (.tmp 75) _, _, _, _, _⟩) (.bool true) rfl (by kernel_rfl) (by kernel_rfl) (by kernel_rfl) (fun _ _ _ h => h) (by kernel_rfl) (fun _ _ => by kernel_rfl) ⟨HBX, BX⟩ ?_
  simp only [Act.put, List.setIfInBounds_toArray, List.set_cons_zero, List.set_cons_succ]
  refine held_valg (i := 20) (oi := ⟨some 77, .move (.tmp 76), _, _, _, _⟩) (.bool true) rfl (by kernel_rfl) (by kernel_rfl) (by kernel_rfl) (fun _ _ _ h => h) (by kernel_rfl) (fun _ _ => by kernel_rfl) ⟨HBX, BX⟩ ?_
  simp only [Act.put, List.setIfInBounds_toArray, List.set_cons_zero, List.set_cons_succ]
  refine held_valg (i := 21) (oi := ⟨some 78, .move (.tmp 16), _, _, _, _⟩) (.slice (some ⟨bm, 0, none⟩) 64 64) rfl (by kernel_rfl) (by kernel_rfl) (by kernel_rfl) (fun _ _ _ h => h) (by kernel_rfl) (fun _ _ => by kernel_rfl) ⟨HBX, BX⟩ ?_
  simp only [Act.put, List.setIfInBounds_toArray, List.set_cons_zero, List.set_cons_succ]
  refine held_valg (i := 22) (oi := ⟨some 79, .call _, _, _, _, _⟩) (.int .i64 64) rfl (by kernel_rfl) (by kernel_rfl) (by kernel_rfl) (fun _ _ _ h => h) (by kernel_rfl) (fun _ _ => by kernel_rfl) ⟨HBX, BX⟩ ?_
  simp only [Act.put, List.setIfInBounds_toArray, List.set_cons_zero, List.set_cons_succ]
  refine held_valg (i := 23) (oi := ⟨some 80, .binOp .eql _ (.tmp 79) _ _, _, _, _, _⟩) (.bool true) rfl (by kernel_rfl) (by kernel_rfl) (by kernel_rfl) (fun _ _ _ h => h) (by kernel_rfl) (fun _ _ => by kernel_rfl) ⟨HBX, BX⟩ ?_
  simp only [Act.put, List.setIfInBounds_toArray, List.set_cons_zero, List.set_cons_succ]
  refine held_valg (i := 24) (oi := ⟨some 81, .pick (.tmp 77) (.tmp 80) _, _, _, _, _⟩) (.bool true) rfl (by kernel_rfl) (by kernel_rfl) (by kernel_rfl) (fun _ _ _ h => h) (by kernel_rfl) (fun _ _ => by kernel_rfl) ⟨HBX, BX⟩ ?_
  simp only [Act.put, List.setIfInBounds_toArray, List.set_cons_zero, List.set_cons_succ]
  refine held_valg (i := 25) (oi := ⟨some 82, .move (.tmp 81), _, _, _, _⟩) (.bool true) rfl (by kernel_rfl) (by kernel_rfl) (by kernel_rfl) (fun _ _ _ h => h) (by kernel_rfl) (fun _ _ => by kernel_rfl) ⟨HBX, BX⟩ ?_
  simp only [Act.put, List.setIfInBounds_toArray, List.set_cons_zero, List.set_cons_succ]
  refine held_valg (i := 26) (oi := ⟨some 83, .fieldAddr _ (.tmp 15) 2, _, _, _, _⟩) (.pointer (some ⟨g15, 33, none⟩)) rfl (by kernel_rfl) (by kernel_rfl) (by kernel_rfl) (fun _ _ _ h => h) (by kernel_rfl) (fun _ _ => by kernel_rfl) ⟨HBX, BX⟩ ?_
  simp only [Act.put, List.setIfInBounds_toArray, List.set_cons_zero, List.set_cons_succ]
  refine held_valg (i := 27) (oi := ⟨some 84, .load _ (.tmp 83), _, _, _, _⟩) (.int .i64 2) rfl (by kernel_rfl) (by kernel_rfl) (by kernel_rfl) (fun _ _ _ h => h) (by kernel_rfl) (fun x hx => exec_load_cell rfl rfl ((hx.2.cell 33).trans HF4.out.2) (by kernel_rfl)) ⟨HBX, BX⟩ ?_
  simp only [Act.put, List.setIfInBounds_toArray, List.set_cons_zero, List.set_cons_succ]
  refine held_valg (i := 28) (oi := ⟨some 85, .binOp .eql _ (.tmp 84) _ _, _, _, _, _⟩) (.bool true) rfl (by kernel_rfl) (by kernel_rfl) (by kernel_rfl) (fun _ _ _ h => h) (by kernel_rfl) (fun _ _ => by kernel_rfl) ⟨HBX, BX⟩ ?_
  simp only [Act.put, List.setIfInBounds_toArray, List.set_cons_zero, List.set_cons_succ]
  refine held_valg (i := 29) (oi := ⟨some 86, .pick (.tmp 82) (.tmp 85) _, _, _, _, _⟩) (.bool true) rfl (by kernel_rfl) (by kernel_rfl) (by kernel_rfl) (fun _ _ _ h => h) (by kernel_rfl) (fun _ _ => by kernel_rfl) ⟨HBX, BX⟩ ?_
  simp only [Act.put, List.setIfInBounds_toArray, List.set_cons_zero, List.set_cons_succ]
  refine held_valg (i := 30) (oi := ⟨some 6, .assign (.tmp 86), _, _, _, _⟩) (.bool true) rfl (by kernel_rfl) (by kernel_rfl) (by kernel_rfl) (fun _ _ _ h => h) (by kernel_rfl) (fun _ _ => by kernel_rfl) ⟨HBX, BX⟩ ?_
  simp only [Act.put, List.setIfInBounds_toArray, List.set_cons_zero, List.set_cons_succ]
  refine wpAnyH_done (by kernel_rfl) ?_ _
  go_wp2
  go_ret
  exact ⟨rfl, HBX⟩
set_option maxHeartbeats 4000000 in
theorem stores_b {W : World} (T : TabQ W) (at_ value n_ : Int) (hat : 0 ≤ at_ ∧ at_ < 256) (hv : U64 value) (hn : 0 ≤ n_ ∧ n_ < 256) (hk : n_ % 4 = 1) {j : Int} (hj0 : 0 ≤ j) (hj8 : j < 8) (hja : at_ / 8 * 8 % 64 = 8 * j) (hadr : U64 (8 * j)) :
    Calls Tryz.prog 9 #[.int .u8 at_, .int .u64 value, .int .u8 n_] W fun e w' => e = .returned (.bool true) ∧ Below W.heap.size W w' := by
  have KA := fun x (hx : BW W x) => (alive11_any T x hx).mono fun e w' ⟨h1, _, h3⟩ => (⟨h1, h3⟩ : _ ∧ Below x.heap.size x w')
  have KB : ∀ x, BW W x → Calls Tryz.prog 16 #[.string ⟨#[115, 104, 32, 120, 49, 44, 32, 48, 40, 120, 50, 41, 10, 108, 104, 117, 32, 120, 51, 44, 32, 48, 40, 120, 50, 41, 10, 104, 97, 108, 116]⟩, .int .i64 64] x (RetAsm x 64 [] (cellsB img11b)) := fun x hx => asm11b x (T.rd.below hx) (T.t7.below hx)
  have hsta := sta_any11b value hj0 hj8
  have KQ := fun x g (hx : BW W x) (hg : Blk (cellsB img11b).toArray 5 g x) => sta_alone hsta img_l11b img_b11b hv hadr x g (T.t11.below hx) hg
  have hx3 := hsta.x3.trans (sta_val img_l11b (by decide) (by decide) (by decide) (by decide) (by decide) (by decide) hv (by omega) (by omega))
  have hcs := hsta.cause
  have hxl := hsta.xlen
  have KZ : ∀ x, BW W x → Calls Tryz.prog 26 #[.int .i64 19] x fun e w' => e = .returned (.int .i64 2) ∧ Below x.heap.size x w' := fun x hx => (rsize_any 19 (by decide) (by decide) x).mono fun _ _ h => h
  have KX : ∀ x, Calls Tryz.prog 27 #[.int .u64 value, .int .i64 16] x fun e w' => e = .returned (.int .u64 (zx value (8 * 2))) ∧ x = w' := fun x => rzext_any value 16 hv.1 hv.lt x
  generalize aloK img11b (staH value (8 * j)) 5 = fin at *
  have HF4 : Hid ((hrtCells fin.h)[4]? = some (.int .u64 (zx value (8 * 2))) ∧ (hrtCells fin.h)[33]? = some (.int .i64 2)) := ⟨by have := hrtC_x hxl (r := 3) (by decide); rw [hx3] at this; exact this, by rw [hrtC_cause hxl, hcs]⟩
  have HI := Lib.hid (hrt_info hxl)
  have HIS : Hid _ := hrt_info (h := staH value (8 * j)) (by simp [staH])
  have KP := fun w3 : World => (Has.of (Blk.new (hrtCells zerH) 38 w3) (n := 34) rfl).put (P := Tryz.prog) (hrtCells fin.h) (hrtC_size hxl) (hrt_one _) (ty := 38) (hrt_info hxl)
  have KN := fun w3 : World => (Has.of (Blk.new (hrtCells zerH) 38 w3) (n := 34) rfl).put (P := Tryz.prog) (hrtCells zerH) rfl (hrt_one _) (ty := 38) (by kernel_rfl)
  have HS1 : Hid ((hrtCells zerH).setIfInBounds 2 (.int .u64 value) = hrtCells ⟨0, (List.replicate 32 0).set 1 value, 0⟩) := hrtC_setx (h := zerH) rfl (r := 1) (by decide) value
  have HS2 : Hid ((hrtCells ⟨0, (List.replicate 32 0).set 1 value, 0⟩).setIfInBounds 3 (.int .u64 (8 * j)) = hrtCells (staH value (8 * j))) := hrtC_setx (h := ⟨0, (List.replicate 32 0).set 1 value, 0⟩) (by simp) (r := 2) (by decide) (8 * j)
  have HQ0 : Hid ((hrtCells zerH)[2]? = some (.int .u64 0)) := rfl
  have HQ1 : Hid ((hrtCells ⟨0, (List.replicate 32 0).set 1 value, 0⟩)[3]? = some (.int .u64 0)) := (show _ = _ by kernel_rfl)
  clear hsta hx3 hcs hxl
  clear T
  have hW0 : Hid (BW W W) := Below.refl _ _
  go_enter Tryz.func9, Tryz.ntmps9
  go_upto_region 4 with (first
    | (go_at_call 18; refine (KA _ hW0.out).mono ?_; rintro e w2 ⟨rfl, hb2⟩; have HB2 := Lib.hid (hW0.out.on hb2); clear hb2))
  go_upto_region 5 with (fail)
  rw [hja]
  go_upto_region 7 with (first
    | (go_at_call 16; refine (KB _ (HB2.out.new _)).mono ?_; rintro e w3 ⟨g, v, rfl, hc, hg, hrow, hb3⟩; have HB3 := (HB2.out.new _).on hb3; have HC3 : Blk (cellsB img11b).toArray 5 g w3 := hc; clear hc hg hrow hb3; obtain ⟨w4, e4, b4, k4⟩ := KN w3))
  have HB4 : Hid (BW W w4) := HB3.on (((Below.refl w3.heap.size w3).alloc (Nat.le_refl _) _).grown k4 (by simp) (fun r hr => by cases hr; exact Nat.le_refl _))
  have HC4 := (HC3.alloc (.cells (hrtCells zerH) 38)).far k4 (by have := HC3.lt; omega)
  have hgs : g < w3.heap.size := HC3.lt
  have hws : W.heap.size ≤ w3.heap.size := Below.size HB3
  clear HB3 HC3 k4 HB2 KB
  go_upto_region 8 with (first
    | (refine store_blk (o := ⟨none, .store _ (.tmp 14) (.tmp 40), _, _, _, _⟩) rfl 38 (.tmp 14) (.tmp 40) rfl rfl rfl e4 ?_))
  clear e4
  obtain ⟨gh, hgh⟩ : ∃ z, w3.heap.size = z := ⟨_, rfl⟩
  rw [hgh] at b4 hgs hws ⊢
  clear hgh
  have q4 := (b4.cell 2).trans HQ0.out
  have f4 := b4.free 2
  have b5 := b4.set 2 (.int .u64 value)
  rw [HS1.out] at b5
  have HB5 : Hid (BW W (w4.setCell ⟨gh, 2, none⟩ (.int .u64 value))) := Below.setCell HB4.out (by show _ ≤ gh; omega) _
  have HC5 := HC4.other (a := ⟨gh, 2, none⟩) (by show g ≠ gh; omega) (.int .u64 value)
  clear b4 HB4 HC4
  go_upto_region 9 with (fail)
  clear q4 f4
  generalize w4.setCell _ _ = w5 at *
  have q5 := (b5.cell 3).trans HQ1.out
  have f5 := b5.free 3
  have b6 := b5.set 3 (.int .u64 (8 * j))
  rw [HS2.out] at b6
  have HB6 : Hid (BW W (w5.setCell ⟨gh, 3, none⟩ (.int .u64 (8 * j)))) := Below.setCell HB5.out (by show _ ≤ gh; omega) _
  have HC6 := HC5.other (a := ⟨gh, 3, none⟩) (by show g ≠ gh; omega) (.int .u64 (8 * j))
  clear b5 HB5 HC5
  go_upto_region 10 with (fail)
  clear q5 f5
  generalize w5.setCell _ _ = w6 at *
  go_upto_region 11 with (first
    | (with_reducible refine load_blk (o := ⟨some 48, _, _, _, _, _⟩) rfl 38 (.tmp 14) rfl b6 rfl Tryz.underlying38 rfl HIS.out ?_)
    | (go_at_call 23; refine (KQ _ g HB6.out HC6).mono ?_; rintro e w7 ⟨bm, lq, lc, rfl, hb7⟩; have HB7 := HB6.out.on hb7; clear hb7; obtain ⟨w8, e8, b8, k8⟩ := KP w7)
    | (refine store_blk (o := ⟨none, .store _ (.tmp 15) (.tmp 51), _, _, _, _⟩) rfl 38 (.tmp 15) (.tmp 51) rfl rfl rfl e8 ?_))
  have HB8 : Hid (BW W w8) := HB7.on (((Below.refl w7.heap.size w7).alloc (Nat.le_refl _) _).grown k8 (by simp) (fun r hr => by cases hr; exact Nat.le_refl _))
  clear e8 k8 HB7 HB6 HC6 b6 KQ KP KN
  obtain ⟨g15, hg15⟩ : ∃ z, w7.heap.size = z := ⟨_, rfl⟩
  rw [hg15] at b8 ⊢
  clear hg15
  go_upto_region 12 with (first
    | (go_at_call 26; refine (KZ _ HB8.out).mono ?_; rintro e w9 ⟨rfl, hb9⟩; have HB9 := HB8.out.on hb9; have b9 := b8.on hb9; clear hb9))
  have HBX : BW W w9.drew := Below.drew HB9
  have BX := b9.drew
  clear HB9 b9 HB8 b8 KZ
  generalize hfh : fin.h = fh at *
  refine wp_region_held (S := fun x => BW W x ∧ Blk (hrtCells fh) 38 g15 x) (by kernel_rfl) ?_
  change wpAnyH _ _ _ _ _ _ _ _ (World.drew _)
  generalize World.drew _ = w10 at *
  refine any_one (i := 0) (by kernel_rfl) ?_
  refine call_op (oi := ⟨some 57, .call _, _, _, _, _⟩) rfl rfl (by first | rfl | kernel_rfl) (KA _ HBX) ?_
  rintro e w11 ⟨rfl, hb11⟩
  replace HBX := HBX.on hb11
  replace BX := BX.on hb11
  refine ⟨_, rfl, ⟨HBX, BX⟩, ?_⟩
  simp only [Act.put, List.setIfInBounds_toArray, List.set_cons_zero, List.set_cons_succ]
  clear hb11 KA
  refine held_valg (i := 1) (oi := ⟨some 58, .move (.tmp 57), _, _, _, _⟩) (.bool true) rfl (by kernel_rfl) (by kernel_rfl) (by kernel_rfl) (fun _ _ _ h => h) (by kernel_rfl) (fun _ _ => by kernel_rfl) ⟨HBX, BX⟩ ?_
  simp only [Act.put, List.setIfInBounds_toArray, List.set_cons_zero, List.set_cons_succ]
  refine held_valg (i := 2) (oi := ⟨some 59, .move (.tmp 13), _, _, _, _⟩) (.int .i64 0) rfl (by kernel_rfl) (by kernel_rfl) (by kernel_rfl) (fun _ _ _ h => h) (by kernel_rfl) (fun _ _ => by kernel_rfl) ⟨HBX, BX⟩ ?_
  simp only [Act.put, List.setIfInBounds_toArray, List.set_cons_zero, List.set_cons_succ]
  refine held_valg (i := 3) (oi := ⟨some 60, .binOp .eql _ (.tmp 59) _ _, _, _, _, _⟩) (.bool true) rfl (by kernel_rfl) (by kernel_rfl) (by kernel_rfl) (fun _ _ _ h => h) (by kernel_rfl) (fun _ _ => by kernel_rfl) ⟨HBX, BX⟩ ?_
  simp only [Act.put, List.setIfInBounds_toArray, List.set_cons_zero, List.set_cons_succ]
  refine held_valg (i := 4) (oi := ⟨some 61, .pick (.tmp 58) (.tmp 60) _, _, _, _, _⟩) (.bool true) rfl (by kernel_rfl) (by kernel_rfl) (by kernel_rfl) (fun _ _ _ h => h) (by kernel_rfl) (fun _ _ => by kernel_rfl) ⟨HBX, BX⟩ ?_
  simp only [Act.put, List.setIfInBounds_toArray, List.set_cons_zero, List.set_cons_succ]
  refine held_valg (i := 5) (oi := ⟨some 62, .move (.tmp 61), _, _, _, _⟩) (.bool true) rfl (by kernel_rfl) (by kernel_rfl) (by kernel_rfl) (fun _ _ _ h => h) (by kernel_rfl) (fun _ _ => by kernel_rfl) ⟨HBX, BX⟩ ?_
  simp only [Act.put, List.setIfInBounds_toArray, List.set_cons_zero, List.set_cons_succ]
  refine held_valg (i := 6) (oi := ⟨some 63, .move (.tmp 17), _, _, _, _⟩) (.slice (some ⟨lq, 0, none⟩) 3 lc) rfl (by kernel_rfl) (by kernel_rfl) (by kernel_rfl) (fun _ _ _ h => h) (by kernel_rfl) (fun _ _ => by kernel_rfl) ⟨HBX, BX⟩ ?_
  simp only [Act.put, List.setIfInBounds_toArray, List.set_cons_zero, List.set_cons_succ]
  refine held_valg (i := 7) (oi := ⟨some 64, .call _, _, _, _, _⟩) (.int .i64 3) rfl (by kernel_rfl) (by kernel_rfl) (by kernel_rfl) (fun _ _ _ h => h) (by kernel_rfl) (fun _ _ => by kernel_rfl) ⟨HBX, BX⟩ ?_
  simp only [Act.put, List.setIfInBounds_toArray, List.set_cons_zero, List.set_cons_succ]
  refine held_valg (i := 8) (oi := ⟨some 65, .binOp .eql _ (.tmp 64) _ _, _, _, _, _⟩) (.bool true) rfl (by kernel_rfl) (by kernel_rfl) (by kernel_rfl) (fun _ _ _ h => h) (by kernel_rfl) (fun _ _ => by kernel_rfl) ⟨HBX, BX⟩ ?_
  simp only [Act.put, List.setIfInBounds_toArray, List.set_cons_zero, List.set_cons_succ]
  refine held_valg (i := 9) (oi := ⟨some 66, .pick (.tmp 62) (.tmp 65) _, _, _, _, _⟩) (.bool true) rfl (by kernel_rfl) (by kernel_rfl) (by kernel_rfl) (fun _ _ _ h => h) (by kernel_rfl) (fun _ _ => by kernel_rfl) ⟨HBX, BX⟩ ?_
  simp only [Act.put, List.setIfInBounds_toArray, List.set_cons_zero, List.set_cons_succ]
  refine held_valg (i := 10) (oi := ⟨some 67, .move (.tmp 66), _, _, _, _⟩) (.bool true) rfl (by kernel_rfl) (by kernel_rfl) (by kernel_rfl) (fun _ _ _ h => h) (by kernel_rfl) (fun _ _ => by kernel_rfl) ⟨HBX, BX⟩ ?_
  simp only [Act.put, List.setIfInBounds_toArray, List.set_cons_zero, List.set_cons_succ]
  refine held_valg (i := 11) (oi := ⟨some 68, .fieldAddr _ (.tmp 15) 1, _, _, _, _⟩) (.pointer (some ⟨g15, 1, none⟩)) rfl (by kernel_rfl) (by kernel_rfl) (by kernel_rfl) (fun _ _ _ h => h) (by kernel_rfl) (fun _ _ => by kernel_rfl) ⟨HBX, BX⟩ ?_
  simp only [Act.put, List.setIfInBounds_toArray, List.set_cons_zero, List.set_cons_succ]
  refine held_valg (i := 12) (oi := ⟨some 69, .indexAddr _ (.tmp 68) _, _, _, _, _⟩) (.pointer (some ⟨g15, 4, none⟩)) rfl (by kernel_rfl) (by kernel_rfl) (by kernel_rfl) (fun _ _ _ h => h) (by kernel_rfl) (fun _ _ => by kernel_rfl) ⟨HBX, BX⟩ ?_
  simp only [Act.put, List.setIfInBounds_toArray, List.set_cons_zero, List.set_cons_succ]
  refine held_valg (i := 13) (oi := ⟨some 70, .load _ (.tmp 69), _, _, _, _⟩) (.int .u64 (zx value (8 * 2))) rfl (by kernel_rfl) (by kernel_rfl) (by kernel_rfl) (fun _ _ _ h => h) (by kernel_rfl) (fun x hx => exec_load_cell rfl rfl ((hx.2.cell 4).trans HF4.out.1) (by kernel_rfl)) ⟨HBX, BX⟩ ?_
  simp only [Act.put, List.setIfInBounds_toArray, List.set_cons_zero, List.set_cons_succ]
  refine held_valg (i := 14) (oi := ⟨some 71, .move (.tmp 1), _, _, _, _⟩) (.int .u64 value) rfl (by kernel_rfl) (by kernel_rfl) (by kernel_rfl) (fun _ _ _ h => h) (by kernel_rfl) (fun _ _ => by kernel_rfl) ⟨HBX, BX⟩ ?_
  simp only [Act.put, List.setIfInBounds_toArray, List.set_cons_zero, List.set_cons_succ]
  refine held_valg (i := 15) (oi := ⟨some 72, .move (.tmp 18), _, _, _, _⟩) (.int .i64 2) rfl (by kernel_rfl) (by kernel_rfl) (by kernel_rfl) (fun _ _ _ h => h) (by kernel_rfl) (fun _ _ => by kernel_rfl) ⟨HBX, BX⟩ ?_
  simp only [Act.put, List.setIfInBounds_toArray, List.set_cons_zero, List.set_cons_succ]
  refine held_valg (i := 16) (oi := ⟨some 73, .binOp .mul _ _ (.tmp 72) _, _, _, _, _⟩) (.int .i64 16) rfl (by kernel_rfl) (by kernel_rfl) (by kernel_rfl) (fun _ _ _ h => h) (by kernel_rfl) (fun _ _ => by kernel_rfl) ⟨HBX, BX⟩ ?_
  simp only [Act.put, List.setIfInBounds_toArray, List.set_cons_zero, List.set_cons_succ]
  refine any_one (i := 17) (by kernel_rfl) ?_
  refine call_opg (oi := ⟨some 74, .call _, _, _, _, _⟩) rfl (by kernel_rfl) (by first | rfl | kernel_rfl) (KX _) ?_
  rintro e w12 ⟨rfl, rfl⟩
  refine ⟨_, rfl, ⟨HBX, BX⟩, ?_⟩
  simp only [Act.put, List.setIfInBounds_toArray, List.set_cons_zero, List.set_cons_succ]
  refine held_valg (i := 18) (oi := ⟨some 75, .binOp .eql _ (.tmp 70) (.tmp 74) _, _, _, _, _⟩) (.bool true) rfl (by kernel_rfl) (by kernel_rfl) (by kernel_rfl) (fun _ _ _ h => h) (by kernel_rfl) (fun _ _ => exec_eq_u64 rfl rfl rfl) ⟨HBX, BX⟩ ?_
  simp only [Act.put, List.setIfInBounds_toArray, List.set_cons_zero, List.set_cons_succ]
  refine held_valg (i := 19) (oi := ⟨some 76, .pick (.tmp 67) (.tmp 75) _, _, _, _, _⟩) (.bool true) rfl (by kernel_rfl) (by kernel_rfl) (by kernel_rfl) (fun _ _ _ h => h) (by kernel_rfl) (fun _ _ => by kernel_rfl) ⟨HBX, BX⟩ ?_
  simp only [Act.put, List.setIfInBounds_toArray, List.set_cons_zero, List.set_cons_succ]
  refine held_valg (i := 20) (oi := ⟨some 77, .move (.tmp 76), _, _, _, _⟩) (.bool true) rfl (by kernel_rfl) (by kernel_rfl) (by kernel_rfl) (fun _ _ _ h => h) (by kernel_rfl) (fun _ _ => by kernel_rfl) ⟨HBX, BX⟩ ?_
  simp only [Act.put, List.setIfInBounds_toArray, List.set_cons_zero, List.set_cons_succ]
  refine held_valg (i := 21) (oi := ⟨some 78, .move (.tmp 16), _, _, _, _⟩) (.slice (some ⟨bm, 0, none⟩) 64 64) rfl (by kernel_rfl) (by kernel_rfl) (by kernel_rfl) (fun _ _ _ h => h) (by kernel_rfl) (fun _ _ => by kernel_rfl) ⟨HBX, BX⟩ ?_
  simp only [Act.put, List.setIfInBounds_toArray, List.set_cons_zero, List.set_cons_succ]
  refine held_valg (i := 22) (oi := ⟨some 79, .call _, _, _, _, _⟩) (.int .i64 64) rfl (by kernel_rfl) (by kernel_rfl) (by kernel_rfl) (fun _ _ _ h => h) (by kernel_rfl) (fun _ _ => by kernel_rfl) ⟨HBX, BX⟩ ?_
  simp only [Act.put, List.setIfInBounds_toArray, List.set_cons_zero, List.set_cons_succ]
  refine held_valg (i := 23) (oi := ⟨some 80, .binOp .eql _ (.tmp 79) _ _, _, _, _, _⟩) (.bool true) rfl (by kernel_rfl) (by kernel_rfl) (by kernel_rfl) (fun _ _ _ h => h) (by kernel_rfl) (fun _ _ => by kernel_rfl) ⟨HBX, BX⟩ ?_
  simp only [Act.put, List.setIfInBounds_toArray, List.set_cons_zero, List.set_cons_succ]
  refine held_valg (i := 24) (oi := ⟨some 81, .pick (.tmp 77) (.tmp 80) _, _, _, _, _⟩) (.bool true) rfl (by kernel_rfl) (by kernel_rfl) (by kernel_rfl) (fun _ _ _ h => h) (by kernel_rfl) (fun _ _ => by kernel_rfl) ⟨HBX, BX⟩ ?_
  simp only [Act.put, List.setIfInBounds_toArray, List.set_cons_zero, List.set_cons_succ]
  refine held_valg (i := 25) (oi := ⟨some 82, .move (.tmp 81), _, _, _, _⟩) (.bool true) rfl (by kernel_rfl) (by kernel_rfl) (by kernel_rfl) (fun _ _ _ h => h) (by kernel_rfl) (fun _ _ => by kernel_rfl) ⟨HBX, BX⟩ ?_
  simp only [Act.put, List.setIfInBounds_toArray, List.set_cons_zero, List.set_cons_succ]
  refine held_valg (i := 26) (oi := ⟨some 83, .fieldAddr _ (.tmp 15) 2, _, _, _, _⟩) (.pointer (some ⟨g15, 33, none⟩)) rfl (by kernel_rfl) (by kernel_rfl) (by kernel_rfl) (fun _ _ _ h => h) (by kernel_rfl) (fun _ _ => by kernel_rfl) ⟨HBX, BX⟩ ?_
  simp only [Act.put, List.setIfInBounds_toArray, List.set_cons_zero, List.set_cons_succ]
  refine held_valg (i := 27) (oi := ⟨some 84, .load _ (.tmp 83), _, _, _, _⟩) (.int .i64 2) rfl (by kernel_rfl) (by kernel_rfl) (by kernel_rfl) (fun _ _ _ h => h) (by kernel_rfl) (fun x hx => exec_load_cell rfl rfl ((hx.2.cell 33).trans HF4.out.2) (by kernel_rfl)) ⟨HBX, BX⟩ ?_
  simp only [Act.put, List.setIfInBounds_toArray, List.set_cons_zero, List.set_cons_succ]
  refine held_valg (i := 28) (oi := ⟨some 85, .binOp .eql _ (.tmp 84) _ _, _, _, _, _⟩) (.bool true) rfl (by kernel_rfl) (by kernel_rfl) (by kernel_rfl) (fun _ _ _ h => h) (by kernel_rfl) (fun _ _ => by kernel_rfl) ⟨HBX, BX⟩ ?_
  simp only [Act.put, List.setIfInBounds_toArray, List.set_cons_zero, List.set_cons_succ]
  refine held_valg (i := 29) (oi := ⟨some 86, .pick (.tmp 82) (.tmp 85) _, _, _, _, _⟩) (.bool true) rfl (by kernel_rfl) (by kernel_rfl) (by kernel_rfl) (fun _ _ _ h => h) (by kernel_rfl) (fun _ _ => by kernel_rfl) ⟨HBX, BX⟩ ?_
  simp only [Act.put, List.setIfInBounds_toArray, List.set_cons_zero, List.set_cons_succ]
  refine held_valg (i := 30) (oi := ⟨some 6, .assign (.tmp 86), _, _, _, _⟩) (.bool true) rfl (by kernel_rfl) (by kernel_rfl) (by kernel_rfl) (fun _ _ _ h => h) (by kernel_rfl) (fun _ _ => by kernel_rfl) ⟨HBX, BX⟩ ?_
  simp only [Act.put, List.setIfInBounds_toArray, List.set_cons_zero, List.set_cons_succ]
  refine wpAnyH_done (by kernel_rfl) ?_ _
  go_wp2
  go_ret
  exact ⟨rfl, HBX⟩
set_option maxHeartbeats 4000000 in
theorem stores_c {W : World} (T : TabQ W) (at_ value n_ : Int) (hat : 0 ≤ at_ ∧ at_ < 256) (hv : U64 value) (hn : 0 ≤ n_ ∧ n_ < 256) (hk : n_ % 4 = 2) {j : Int} (hj0 : 0 ≤ j) (hj8 : j < 8) (hja : at_ / 8 * 8 % 64 = 8 * j) (hadr : U64 (8 * j)) :
    Calls Tryz.prog 9 #[.int .u8 at_, .int .u64 value, .int .u8 n_] W fun e w' => e = .returned (.bool true) ∧ Below W.heap.size W w' := by
  have KA := fun x (hx : BW W x) => (alive11_any T x hx).mono fun e w' ⟨h1, _, h3⟩ => (⟨h1, h3⟩ : _ ∧ Below x.heap.size x w')
  have KB : ∀ x, BW W x → Calls Tryz.prog 16 #[.string ⟨#[115, 119, 32, 120, 49, 44, 32, 48, 40, 120, 50, 41, 10, 108, 119, 117, 32, 120, 51, 44, 32, 48, 40, 120, 50, 41, 10, 104, 97, 108, 116]⟩, .int .i64 64] x (RetAsm x 64 [] (cellsB img11c)) := fun x hx => asm11c x (T.rd.below hx) (T.t7.below hx)
  have hsta := sta_any11c value hj0 hj8
  have KQ := fun x g (hx : BW W x) (hg : Blk (cellsB img11c).toArray 5 g x) => sta_alone hsta img_l11c img_b11c hv hadr x g (T.t11.below hx) hg
  have hx3 := hsta.x3.trans (sta_val img_l11c (by decide) (by decide) (by decide) (by decide) (by decide) (by decide) hv (by omega) (by omega))
  have hcs := hsta.cause
  have hxl := hsta.xlen
  have KZ : ∀ x, BW W x → Calls Tryz.prog 26 #[.int .i64 20] x fun e w' => e = .returned (.int .i64 4) ∧ Below x.heap.size x w' := fun x hx => (rsize_any 20 (by decide) (by decide) x).mono fun _ _ h => h
  have KX : ∀ x, Calls Tryz.prog 27 #[.int .u64 value, .int .i64 32] x fun e w' => e = .returned (.int .u64 (zx value (8 * 4))) ∧ x = w' := fun x => rzext_any value 32 hv.1 hv.lt x
  generalize aloK img11c (staH value (8 * j)) 5 = fin at *
  have HF4 : Hid ((hrtCells fin.h)[4]? = some (.int .u64 (zx value (8 * 4))) ∧ (hrtCells fin.h)[33]? = some (.int .i64 2)) := ⟨by have := hrtC_x hxl (r := 3) (by decide); rw [hx3] at this; exact this, by rw [hrtC_cause hxl, hcs]⟩
  have HI := Lib.hid (hrt_info hxl)
  have HIS : Hid _ := hrt_info (h := staH value (8 * j)) (by simp [staH])
  have KP := fun w3 : World => (Has.of (Blk.new (hrtCells zerH) 38 w3) (n := 34) rfl).put (P := Tryz.prog) (hrtCells fin.h) (hrtC_size hxl) (hrt_one _) (ty := 38) (hrt_info hxl)
  have KN := fun w3 : World => (Has.of (Blk.new (hrtCells zerH) 38 w3) (n := 34) rfl).put (P := Tryz.prog) (hrtCells zerH) rfl (hrt_one _) (ty := 38) (by kernel_rfl)
  have HS1 : Hid ((hrtCells zerH).setIfInBounds 2 (.int .u64 value) = hrtCells ⟨0, (List.replicate 32 0).set 1 value, 0⟩) := hrtC_setx (h := zerH) rfl (r := 1) (by decide) value
  have HS2 : Hid ((hrtCells ⟨0, (List.replicate 32 0).set 1 value, 0⟩).setIfInBounds 3 (.int .u64 (8 * j)) = hrtCells (staH value (8 * j))) := hrtC_setx (h := ⟨0, (List.replicate 32 0).set 1 value, 0⟩) (by simp) (r := 2) (by decide) (8 * j)
  have HQ0 : Hid ((hrtCells zerH)[2]? = some (.int .u64 0)) := rfl
  have HQ1 : Hid ((hrtCells ⟨0, (List.replicate 32 0).set 1 value, 0⟩)[3]? = some (.int .u64 0)) := (show _ = _ by kernel_rfl)
  clear hsta hx3 hcs hxl
  clear T
  have hW0 : Hid (BW W W) := Below.refl _ _
  go_enter Tryz.func9, Tryz.ntmps9
  go_upto_region 4 with (first
    | (go_at_call 18; refine (KA _ hW0.out).mono ?_; rintro e w2 ⟨rfl, hb2⟩; have HB2 := Lib.hid (hW0.out.on hb2); clear hb2))
  go_upto_region 5 with (fail)
  rw [hja]
  go_upto_region 7 with (first
    | (go_at_call 16; refine (KB _ (HB2.out.new _)).mono ?_; rintro e w3 ⟨g, v, rfl, hc, hg, hrow, hb3⟩; have HB3 := (HB2.out.new _).on hb3; have HC3 : Blk (cellsB img11c).toArray 5 g w3 := hc; clear hc hg hrow hb3; obtain ⟨w4, e4, b4, k4⟩ := KN w3))
  have HB4 : Hid (BW W w4) := HB3.on (((Below.refl w3.heap.size w3).alloc (Nat.le_refl _) _).grown k4 (by simp) (fun r hr => by cases hr; exact Nat.le_refl _))
  have HC4 := (HC3.alloc (.cells (hrtCells zerH) 38)).far k4 (by have := HC3.lt; omega)
  have hgs : g < w3.heap.size := HC3.lt
  have hws : W.heap.size ≤ w3.heap.size := Below.size HB3
  clear HB3 HC3 k4 HB2 KB
  go_upto_region 8 with (first
    | (refine store_blk (o := ⟨none, .store _ (.tmp 14) (.tmp 40), _, _, _, _⟩) rfl 38 (.tmp 14) (.tmp 40) rfl rfl rfl e4 ?_))
  clear e4
  obtain ⟨gh, hgh⟩ : ∃ z, w3.heap.size = z := ⟨_, rfl⟩
  rw [hgh] at b4 hgs hws ⊢
  clear hgh
  have q4 := (b4.cell 2).trans HQ0.out
  have f4 := b4.free 2
  have b5 := b4.set 2 (.int .u64 value)
  rw [HS1.out] at b5
  have HB5 : Hid (BW W (w4.setCell ⟨gh, 2, none⟩ (.int .u64 value))) := Below.setCell HB4.out (by show _ ≤ gh; omega) _
  have HC5 := HC4.other (a := ⟨gh, 2, none⟩) (by show g ≠ gh; omega) (.int .u64 value)
  clear b4 HB4 HC4
  go_upto_region 9 with (fail)
  clear q4 f4
  generalize w4.setCell _ _ = w5 at *
  have q5 := (b5.cell 3).trans HQ1.out
  have f5 := b5.free 3
  have b6 := b5.set 3 (.int .u64 (8 * j))
  rw [HS2.out] at b6
  have HB6 : Hid (BW W (w5.setCell ⟨gh, 3, none⟩ (.int .u64 (8 * j)))) := Below.setCell HB5.out (by show _ ≤ gh; omega) _
  have HC6 := HC5.other (a := ⟨gh, 3, none⟩) (by show g ≠ gh; omega) (.int .u64 (8 * j))
  clear b5 HB5 HC5
  go_upto_region 10 with (fail)
  clear q5 f5
  generalize w5.setCell _ _ = w6 at *
  go_upto_region 11 with (first
    | (with_reducible refine load_blk (o := ⟨some 48, _, _, _, _, _⟩) rfl 38 (.tmp 14) rfl b6 rfl Tryz.underlying38 rfl HIS.out ?_)
    | (go_at_call 23; refine (KQ _ g HB6.out HC6).mono ?_; rintro e w7 ⟨bm, lq, lc, rfl, hb7⟩; have HB7 := HB6.out.on hb7; clear hb7; obtain ⟨w8, e8, b8, k8⟩ := KP w7)
    | (refine store_blk (o := ⟨none, .store _ (.tmp 15) (.tmp 51), _, _, _, _⟩) rfl 38 (.tmp 15) (.tmp 51) rfl rfl rfl e8 ?_))
  have HB8 : Hid (BW W w8) := HB7.on (((Below.refl w7.heap.size w7).alloc (Nat.le_refl _) _).grown k8 (by simp) (fun r hr => by cases hr; exact Nat.le_refl _))
  clear e8 k8 HB7 HB6 HC6 b6 KQ KP KN
  obtain ⟨g15, hg15⟩ : ∃ z, w7.heap.size = z := ⟨_, rfl⟩
  rw [hg15] at b8 ⊢
  clear hg15
  go_upto_region 12 with (first
    | (go_at_call 26; refine (KZ _ HB8.out).mono ?_; rintro e w9 ⟨rfl, hb9⟩; have HB9 := HB8.out.on hb9; have b9 := b8.on hb9; clear hb9))
  have HBX : BW W w9.drew := Below.drew HB9
  have BX := b9.drew
  clear HB9 b9 HB8 b8 KZ
  generalize hfh : fin.h = fh at *
  refine wp_region_held (S := fun x => BW W x ∧ Blk (hrtCells fh) 38 g15 x) (by kernel_rfl) ?_
  change wpAnyH _ _ _ _ _ _ _ _ (World.drew _)
  generalize World.drew _ = w10 at *
  refine any_one (i := 0) (by kernel_rfl) ?_
  refine call_op (oi := ⟨some 57, .call _, _, _, _, _⟩) rfl rfl (by first | rfl | kernel_rfl) (KA _ HBX) ?_
  rintro e w11 ⟨rfl, hb11⟩
  replace HBX := HBX.on hb11
  replace BX := BX.on hb11
  refine ⟨_, rfl, ⟨HBX, BX⟩, ?_⟩
  simp only [Act.put, List.setIfInBounds_toArray, List.set_cons_zero, List.set_cons_succ]
  clear hb11 KA
  refine held_valg (i := 1) (oi := ⟨some 58, .move (.tmp 57), _, _, _, _⟩) (.bool true) rfl (by kernel_rfl) (by kernel_rfl) (by kernel_rfl) (fun _ _ _ h => h) (by kernel_rfl) (fun _ _ => by kernel_rfl) ⟨HBX, BX⟩ ?_
  simp only [Act.put, List.setIfInBounds_toArray, List.set_cons_zero, List.set_cons_succ]
  refine held_valg (i := 2) (oi := ⟨some 59, .move (.tmp 13), _, _, _, _⟩) (.int .i64 0) rfl (by kernel_rfl) (by kernel_rfl) (by kernel_rfl) (fun _ _ _ h => h) (by kernel_rfl) (fun _ _ => by kernel_rfl) ⟨HBX, BX⟩ ?_
  simp only [Act.put, List.setIfInBounds_toArray, List.set_cons_zero, List.set_cons_succ]
  refine held_valg (i := 3) (oi := ⟨some 60, .binOp .eql _ (.tmp 59) _ _, _, _, _, _⟩) (.bool true) rfl (by kernel_rfl) (by kernel_rfl) (by kernel_rfl) (fun _ _ _ h => h) (by kernel_rfl) (fun _ _ => by kernel_rfl) ⟨HBX, BX⟩ ?_
  simp only [Act.put, List.setIfInBounds_toArray, List.set_cons_zero, List.set_cons_succ]
  refine held_valg (i := 4) (oi := ⟨some 61, .pick (.tmp 58) (.tmp 60) _, _, _, _, _⟩) (.bool true) rfl (by kernel_rfl) (by kernel_rfl) (by kernel_rfl) (fun _ _ _ h => h) (by kernel_rfl) (fun _ _ => by kernel_rfl) ⟨HBX, BX⟩ ?_
  simp only [Act.put, List.setIfInBounds_toArray, List.set_cons_zero, List.set_cons_succ]
  refine held_valg (i := 5) (oi := ⟨some 62, .move (.tmp 61), _, _, _, _⟩) (.bool true) rfl (by kernel_rfl) (by kernel_rfl) (by kernel_rfl) (fun _ _ _ h => h) (by kernel_rfl) (fun _ _ => by kernel_rfl) ⟨HBX, BX⟩ ?_
  simp only [Act.put, List.setIfInBounds_toArray, List.set_cons_zero, List.set_cons_succ]
  refine held_valg (i := 6) (oi := ⟨some 63, .move (.tmp 17), _, _, _, _⟩) (.slice (some ⟨lq, 0, none⟩) 3 lc) rfl (by kernel_rfl) (by kernel_rfl) (by kernel_rfl) (fun _ _ _ h => h) (by kernel_rfl) (fun _ _ => by kernel_rfl) ⟨HBX, BX⟩ ?_
  simp only [Act.put, List.setIfInBounds_toArray, List.set_cons_zero, List.set_cons_succ]
  refine held_valg (i := 7) (oi := ⟨some 64, .call _, _, _, _, _⟩) (.int .i64 3) rfl (by kernel_rfl) (by kernel_rfl) (by kernel_rfl) (fun _ _ _ h => h) (by kernel_rfl) (fun _ _ => by kernel_rfl) ⟨HBX, BX⟩ ?_
  simp only [Act.put, List.setIfInBounds_toArray, List.set_cons_zero, List.set_cons_succ]
  refine held_valg (i := 8) (oi := ⟨some 65, .binOp .eql _ (.tmp 64) _ _, _, _, _, _⟩) (.bool true) rfl (by kernel_rfl) (by kernel_rfl) (by kernel_rfl) (fun _ _ _ h => h) (by kernel_rfl) (fun _ _ => by kernel_rfl) ⟨HBX, BX⟩ ?_
  simp only [Act.put, List.setIfInBounds_toArray, List.set_cons_zero, List.set_cons_succ]
  refine held_valg (i := 9) (oi := ⟨some 66, .pick (.tmp 62) (.tmp 65) _, _, _, _, _⟩) (.bool true) rfl (by kernel_rfl) (by kernel_rfl) (by kernel_rfl) (fun _ _ _ h => h) (by kernel_rfl) (fun _ _ => by kernel_rfl) ⟨HBX, BX⟩ ?_
  simp only [Act.put, List.setIfInBounds_toArray, List.set_cons_zero, List.set_cons_succ]
  refine held_valg (i := 10) (oi := ⟨some 67, .move (.tmp 66), _, _, _, _⟩) (.bool true) rfl (by kernel_rfl) (by kernel_rfl) (by kernel_rfl) (fun _ _ _ h => h) (by kernel_rfl) (fun _ _ => by kernel_rfl) ⟨HBX, BX⟩ ?_
  simp only [Act.put, List.setIfInBounds_toArray, List.set_cons_zero, List.set_cons_succ]
  refine held_valg (i := 11) (oi := ⟨some 68, .fieldAddr _ (.tmp 15) 1, _, _, _, _⟩) (.pointer (some ⟨g15, 1, none⟩)) rfl (by kernel_rfl) (by kernel_rfl) (by kernel_rfl) (fun _ _ _ h => h) (by kernel_rfl) (fun _ _ => by kernel_rfl) ⟨HBX, BX⟩ ?_
  simp only [Act.put, List.setIfInBounds_toArray, List.set_cons_zero, List.set_cons_succ]
  refine held_valg (i := 12) (oi := ⟨some 69, .indexAddr _ (.tmp 68) _, _, _, _, _⟩) (.pointer (some ⟨g15, 4, none⟩)) rfl (by kernel_rfl) (by kernel_rfl) (by kernel_rfl) (fun _ _ _ h => h) (by kernel_rfl) (fun _ _ => by kernel_rfl) ⟨HBX, BX⟩ ?_
  simp only [Act.put, List.setIfInBounds_toArray, List.set_cons_zero, List.set_cons_succ]
  refine held_valg (i := 13) (oi := ⟨some 70, .load _ (.tmp 69), _, _, _, _⟩) (.int .u64 (zx value (8 * 4))) rfl (by kernel_rfl) (by kernel_rfl) (by kernel_rfl) (fun _ _ _ h => h) (by kernel_rfl) (fun x hx => exec_load_cell rfl rfl ((hx.2.cell 4).trans HF4.out.1) (by kernel_rfl)) ⟨HBX, BX⟩ ?_
  simp only [Act.put, List.setIfInBounds_toArray, List.set_cons_zero, List.set_cons_succ]
  refine held_valg (i := 14) (oi := ⟨some 71, .move (.tmp 1), _, _, _, _⟩) (.int .u64 value) rfl (by kernel_rfl) (by kernel_rfl) (by kernel_rfl) (fun _ _ _ h => h) (by kernel_rfl) (fun _ _ => by kernel_rfl) ⟨HBX, BX⟩ ?_
  simp only [Act.put, List.setIfInBounds_toArray, List.set_cons_zero, List.set_cons_succ]
  refine held_valg (i := 15) (oi := ⟨some 72, .move (.tmp 18), _, _, _, _⟩) (.int .i64 4) rfl (by kernel_rfl) (by kernel_rfl) (by kernel_rfl) (fun _ _ _ h => h) (by kernel_rfl) (fun _ _ => by kernel_rfl) ⟨HBX, BX⟩ ?_
  simp only [Act.put, List.setIfInBounds_toArray, List.set_cons_zero, List.set_cons_succ]
  refine held_valg (i := 16) (oi := ⟨some 73, .binOp .mul _ _ (.tmp 72) _, _, _, _, _⟩) (.int .i64 32) rfl (by kernel_rfl) (by kernel_rfl) (by kernel_rfl) (fun _ _ _ h => h) (by kernel_rfl) (fun _ _ => by kernel_rfl) ⟨HBX, BX⟩ ?_
  simp only [Act.put, List.setIfInBounds_toArray, List.set_cons_zero, List.set_cons_succ]
  refine any_one (i := 17) (by kernel_rfl) ?_
  refine call_opg (oi := ⟨some 74, .call _, _, _, _, _⟩) rfl (by kernel_rfl) (by first | rfl | kernel_rfl) (KX _) ?_
  rintro e w12 ⟨rfl, rfl⟩
  refine ⟨_, rfl, ⟨HBX, BX⟩, ?_⟩
  simp only [Act.put, List.setIfInBounds_toArray, List.set_cons_zero, List.set_cons_succ]
  refine held_valg (i := 18) (oi := ⟨some 75, .binOp .eql _ (.tmp 70) (.tmp 74) _, _, _, _, _⟩) (.bool true) rfl (by kernel_rfl) (by kernel_rfl) (by kernel_rfl) (fun _ _ _ h => h) (by kernel_rfl) (fun _ _ => exec_eq_u64 rfl rfl rfl) ⟨HBX, BX⟩ ?_
  simp only [Act.put, List.setIfInBounds_toArray, List.set_cons_zero, List.set_cons_succ]
  refine held_valg (i := 19) (oi := ⟨some 76, .pick (.tmp 67) (.tmp 75) _, _, _, _, _⟩) (.bool true) rfl (by kernel_rfl) (by kernel_rfl) (by kernel_rfl) (fun _ _ _ h => h) (by kernel_rfl) (fun _ _ => by kernel_rfl) ⟨HBX, BX⟩ ?_
  simp only [Act.put, List.setIfInBounds_toArray, List.set_cons_zero, List.set_cons_succ]
  refine held_valg (i := 20) (oi := ⟨some 77, .move (.tmp 76), _, _, _, _⟩) (.bool true) rfl (by kernel_rfl) (by kernel_rfl) (by kernel_rfl) (fun _ _ _ h => h) (by kernel_rfl) (fun _ _ => by kernel_rfl) ⟨HBX, BX⟩ ?_
  simp only [Act.put, List.setIfInBounds_toArray, List.set_cons_zero, List.set_cons_succ]
  refine held_valg (i := 21) (oi := ⟨some 78, .move (.tmp 16), _, _, _, _⟩) (.slice (some ⟨bm, 0, none⟩) 64 64) rfl (by kernel_rfl) (by kernel_rfl) (by kernel_rfl) (fun _ _ _ h => h) (by kernel_rfl) (fun _ _ => by kernel_rfl) ⟨HBX, BX⟩ ?_
  simp only [Act.put, List.setIfInBounds_toArray, List.set_cons_zero, List.set_cons_succ]
  refine held_valg (i := 22) (oi := ⟨some 79, .call _, _, _, _, _⟩) (.int .i64 64) rfl (by kernel_rfl) (by kernel_rfl) (by kernel_rfl) (fun _ _ _ h => h) (by kernel_rfl) (fun _ _ => by kernel_rfl) ⟨HBX, BX⟩ ?_
  simp only [Act.put, List.setIfInBounds_toArray, List.set_cons_zero, List.set_cons_succ]
  refine held_valg (i := 23) (oi := ⟨some 80, .binOp .eql _ (.tmp 79) _ _, _, _, _, _⟩) (.bool true) rfl (by kernel_rfl) (by kernel_rfl) (by kernel_rfl) (fun _ _ _ h => h) (by kernel_rfl) (fun _ _ => by kernel_rfl) ⟨HBX, BX⟩ ?_
  simp only [Act.put, List.setIfInBounds_toArray, List.set_cons_zero, List.set_cons_succ]
  refine held_valg (i := 24) (oi := ⟨some 81, .pick (.tmp 77) (.tmp 80) _, _, _, _, _⟩) (.bool true) rfl (by kernel_rfl) (by kernel_rfl) (by kernel_rfl) (fun _ _ _ h => h) (by kernel_rfl) (fun _ _ => by kernel_rfl) ⟨HBX, BX⟩ ?_
  simp only [Act.put, List.setIfInBounds_toArray, List.set_cons_zero, List.set_cons_succ]
  refine held_valg (i := 25) (oi := ⟨some 82, .move (.tmp 81), _, _, _, _⟩) (.bool true) rfl (by kernel_rfl) (by kernel_rfl) (by kernel_rfl) (fun _ _ _ h => h) (by kernel_rfl) (fun _ _ => by kernel_rfl) ⟨HBX, BX⟩ ?_
  simp only [Act.put, List.setIfInBounds_toArray, List.set_cons_zero, List.set_cons_succ]
  refine held_valg (i := 26) (oi := ⟨some 83, .fieldAddr _ (.tmp 15) 2, _, _, _, _⟩) (.pointer (some ⟨g15, 33, none⟩)) rfl (by kernel_rfl) (by kernel_rfl) (by kernel_rfl) (fun _ _ _ h => h) (by kernel_rfl) (fun _ _ => by kernel_rfl) ⟨HBX, BX⟩ ?_
  simp only [Act.put, List.setIfInBounds_toArray, List.set_cons_zero, List.set_cons_succ]
  refine held_valg (i := 27) (oi := ⟨some 84, .load _ (.tmp 83), _, _, _, _⟩) (.int .i64 2) rfl (by kernel_rfl) (by kernel_rfl) (by kernel_rfl) (fun _ _ _ h => h) (by kernel_rfl) (fun x hx => exec_load_cell rfl rfl ((hx.2.cell 33).trans HF4.out.2) (by kernel_rfl)) ⟨HBX, BX⟩ ?_
  simp only [Act.put, List.setIfInBounds_toArray, List.set_cons_zero, List.set_cons_succ]
  refine held_valg (i := 28) (oi := ⟨some 85, .binOp .eql _ (.tmp 84) _ _, _, _, _, _⟩) (.bool true) rfl (by kernel_rfl) (by kernel_rfl) (by kernel_rfl) (fun _ _ _ h => h) (by kernel_rfl) (fun _ _ => by kernel_rfl) ⟨HBX, BX⟩ ?_
  simp only [Act.put, List.setIfInBounds_toArray, List.set_cons_zero, List.set_cons_succ]
  refine held_valg (i := 29) (oi := ⟨some 86, .pick (.tmp 82) (.tmp 85) _, _, _, _, _⟩) (.bool true) rfl (by kernel_rfl) (by kernel_rfl) (by kernel_rfl) (fun _ _ _ h => h) (by kernel_rfl) (fun _ _ => by kernel_rfl) ⟨HBX, BX⟩ ?_
  simp only [Act.put, List.setIfInBounds_toArray, List.set_cons_zero, List.set_cons_succ]
  refine held_valg (i := 30) (oi := ⟨some 6, .assign (.tmp 86), _, _, _, _⟩) (.bool true) rfl (by kernel_rfl) (by kernel_rfl) (by kernel_rfl) (fun _ _ _ h => h) (by kernel_rfl) (fun _ _ => by kernel_rfl) ⟨HBX, BX⟩ ?_
  simp only [Act.put, List.setIfInBounds_toArray, List.set_cons_zero, List.set_cons_succ]
  refine wpAnyH_done (by kernel_rfl) ?_ _
  go_wp2
  go_ret
  exact ⟨rfl, HBX⟩
set_option maxHeartbeats 4000000 in
theorem stores_d {W : World} (T : TabQ W) (at_ value n_ : Int) (hat : 0 ≤ at_ ∧ at_ < 256) (hv : U64 value) (hn : 0 ≤ n_ ∧ n_ < 256) (hk : n_ % 4 = 3) {j : Int} (hj0 : 0 ≤ j) (hj8 : j < 8) (hja : at_ / 8 * 8 % 64 = 8 * j) (hadr : U64 (8 * j)) :
    Calls Tryz.prog 9 #[.int .u8 at_, .int .u64 value, .int .u8 n_] W fun e w' => e = .returned (.bool true) ∧ Below W.heap.size W w' := by
  have KA := fun x (hx : BW W x) => (alive11_any T x hx).mono fun e w' ⟨h1, _, h3⟩ => (⟨h1, h3⟩ : _ ∧ Below x.heap.size x w')
  have KB : ∀ x, BW W x → Calls Tryz.prog 16 #[.string ⟨#[115, 100, 32, 120, 49, 44, 32, 48, 40, 120, 50, 41, 10, 108, 100, 32, 120, 51, 44, 32, 48, 40, 120, 50, 41, 10, 104, 97, 108, 116]⟩, .int .i64 64] x (RetAsm x 64 [] (cellsB img11d)) := fun x hx => asm11d x (T.rd.below hx) (T.t7.below hx)
  have hsta := sta_any11d value hj0 hj8
  have KQ := fun x g (hx : BW W x) (hg : Blk (cellsB img11d).toArray 5 g x) => sta_alone hsta img_l11d img_b11d hv hadr x g (T.t11.below hx) hg
  have hx3 := hsta.x3.trans (sta_val img_l11d (by decide) (by decide) (by decide) (by decide) (by decide) (by decide) hv (by omega) (by omega))
  have hcs := hsta.cause
  have hxl := hsta.xlen
  have KZ : ∀ x, BW W x → Calls Tryz.prog 26 #[.int .i64 21] x fun e w' => e = .returned (.int .i64 8) ∧ Below x.heap.size x w' := fun x hx => (rsize_any 21 (by decide) (by decide) x).mono fun _ _ h => h
  have KX : ∀ x, Calls Tryz.prog 27 #[.int .u64 value, .int .i64 64] x fun e w' => e = .returned (.int .u64 (zx value (8 * 8))) ∧ x = w' := fun x => rzext_any value 64 hv.1 hv.lt x
  generalize aloK img11d (staH value (8 * j)) 5 = fin at *
  have HF4 : Hid ((hrtCells fin.h)[4]? = some (.int .u64 (zx value (8 * 8))) ∧ (hrtCells fin.h)[33]? = some (.int .i64 2)) := ⟨by have := hrtC_x hxl (r := 3) (by decide); rw [hx3] at this; exact this, by rw [hrtC_cause hxl, hcs]⟩
  have HI := Lib.hid (hrt_info hxl)
  have HIS : Hid _ := hrt_info (h := staH value (8 * j)) (by simp [staH])
  have KP := fun w3 : World => (Has.of (Blk.new (hrtCells zerH) 38 w3) (n := 34) rfl).put (P := Tryz.prog) (hrtCells fin.h) (hrtC_size hxl) (hrt_one _) (ty := 38) (hrt_info hxl)
  have KN := fun w3 : World => (Has.of (Blk.new (hrtCells zerH) 38 w3) (n := 34) rfl).put (P := Tryz.prog) (hrtCells zerH) rfl (hrt_one _) (ty := 38) (by kernel_rfl)
  have HS1 : Hid ((hrtCells zerH).setIfInBounds 2 (.int .u64 value) = hrtCells ⟨0, (List.replicate 32 0).set 1 value, 0⟩) := hrtC_setx (h := zerH) rfl (r := 1) (by decide) value
  have HS2 : Hid ((hrtCells ⟨0, (List.replicate 32 0).set 1 value, 0⟩).setIfInBounds 3 (.int .u64 (8 * j)) = hrtCells (staH value (8 * j))) := hrtC_setx (h := ⟨0, (List.replicate 32 0).set 1 value, 0⟩) (by simp) (r := 2) (by decide) (8 * j)
  have HQ0 : Hid ((hrtCells zerH)[2]? = some (.int .u64 0)) := rfl
  have HQ1 : Hid ((hrtCells ⟨0, (List.replicate 32 0).set 1 value, 0⟩)[3]? = some (.int .u64 0)) := (show _ = _ by kernel_rfl)
  clear hsta hx3 hcs hxl
  clear T
  have hW0 : Hid (BW W W) := Below.refl _ _
  go_enter Tryz.func9, Tryz.ntmps9
  go_upto_region 4 with (first
    | (go_at_call 18; refine (KA _ hW0.out).mono ?_; rintro e w2 ⟨rfl, hb2⟩; have HB2 := Lib.hid (hW0.out.on hb2); clear hb2))
  go_upto_region 5 with (fail)
  rw [hja]
  go_upto_region 7 with (first
    | (go_at_call 16; refine (KB _ (HB2.out.new _)).mono ?_; rintro e w3 ⟨g, v, rfl, hc, hg, hrow, hb3⟩; have HB3 := (HB2.out.new _).on hb3; have HC3 : Blk (cellsB img11d).toArray 5 g w3 := hc; clear hc hg hrow hb3; obtain ⟨w4, e4, b4, k4⟩ := KN w3))
  have HB4 : Hid (BW W w4) := HB3.on (((Below.refl w3.heap.size w3).alloc (Nat.le_refl _) _).grown k4 (by simp) (fun r hr => by cases hr; exact Nat.le_refl _))
  have HC4 := (HC3.alloc (.cells (hrtCells zerH) 38)).far k4 (by have := HC3.lt; omega)
  have hgs : g < w3.heap.size := HC3.lt
  have hws : W.heap.size ≤ w3.heap.size := Below.size HB3
  clear HB3 HC3 k4 HB2 KB
  go_upto_region 8 with (first
    | (refine store_blk (o := ⟨none, .store _ (.tmp 14) (.tmp 40), _, _, _, _⟩) rfl 38 (.tmp 14) (.tmp 40) rfl rfl rfl e4 ?_))
  clear e4
  obtain ⟨gh, hgh⟩ : ∃ z, w3.heap.size = z := ⟨_, rfl⟩
  rw [hgh] at b4 hgs hws ⊢
  clear hgh
  have q4 := (b4.cell 2).trans HQ0.out
  have f4 := b4.free 2
  have b5 := b4.set 2 (.int .u64 value)
  rw [HS1.out] at b5
  have HB5 : Hid (BW W (w4.setCell ⟨gh, 2, none⟩ (.int .u64 value))) := Below.setCell HB4.out (by show _ ≤ gh; omega) _
  have HC5 := HC4.other (a := ⟨gh, 2, none⟩) (by show g ≠ gh; omega) (.int .u64 value)
  clear b4 HB4 HC4
  go_upto_region 9 with (fail)
  clear q4 f4
  generalize w4.setCell _ _ = w5 at *
  have q5 := (b5.cell 3).trans HQ1.out
  have f5 := b5.free 3
  have b6 := b5.set 3 (.int .u64 (8 * j))
  rw [HS2.out] at b6
  have HB6 : Hid (BW W (w5.setCell ⟨gh, 3, none⟩ (.int .u64 (8 * j)))) := Below.setCell HB5.out (by show _ ≤ gh; omega) _
  have HC6 := HC5.other (a := ⟨gh, 3, none⟩) (by show g ≠ gh; omega) (.int .u64 (8 * j))
  clear b5 HB5 HC5
  go_upto_region 10 with (fail)
  clear q5 f5
  generalize w5.setCell _ _ = w6 at *
  go_upto_region 11 with (first
    | (with_reducible refine load_blk (o := ⟨some 48, _, _, _, _, _⟩) rfl 38 (.tmp 14) rfl b6 rfl Tryz.underlying38 rfl HIS.out ?_)
    | (go_at_call 23; refine (KQ _ g HB6.out HC6).mono ?_; rintro e w7 ⟨bm, lq, lc, rfl, hb7⟩; have HB7 := HB6.out.on hb7; clear hb7; obtain ⟨w8, e8, b8, k8⟩ := KP w7)
    | (refine store_blk (o := ⟨none, .store _ (.tmp 15) (.tmp 51), _, _, _, _⟩) rfl 38 (.tmp 15) (.tmp 51) rfl rfl rfl e8 ?_))
  have HB8 : Hid (BW W w8) := HB7.on (((Below.refl w7.heap.size w7).alloc (Nat.le_refl _) _).grown k8 (by simp) (fun r hr => by cases hr; exact Nat.le_refl _))
  clear e8 k8 HB7 HB6 HC6 b6 KQ KP KN
  obtain ⟨g15, hg15⟩ : ∃ z, w7.heap.size = z := ⟨_, rfl⟩
  rw [hg15] at b8 ⊢
  clear hg15
  go_upto_region 12 with (first
    | (go_at_call 26; refine (KZ _ HB8.out).mono ?_; rintro e w9 ⟨rfl, hb9⟩; have HB9 := HB8.out.on hb9; have b9 := b8.on hb9; clear hb9))
  have HBX : BW W w9.drew := Below.drew HB9
  have BX := b9.drew
  clear HB9 b9 HB8 b8 KZ
  generalize hfh : fin.h = fh at *
  refine wp_region_held (S := fun x => BW W x ∧ Blk (hrtCells fh) 38 g15 x) (by kernel_rfl) ?_
  change wpAnyH _ _ _ _ _ _ _ _ (World.drew _)
  generalize World.drew _ = w10 at *
  refine any_one (i := 0) (by kernel_rfl) ?_
  refine call_op (oi := ⟨some 57, .call _, _, _, _, _⟩) rfl rfl (by first | rfl | kernel_rfl) (KA _ HBX) ?_
  rintro e w11 ⟨rfl, hb11⟩
  replace HBX := HBX.on hb11
  replace BX := BX.on hb11
  refine ⟨_, rfl, ⟨HBX, BX⟩, ?_⟩
  simp only [Act.put, List.setIfInBounds_toArray, List.set_cons_zero, List.set_cons_succ]
  clear hb11 KA
  refine held_valg (i := 1) (oi := ⟨some 58, .move (.tmp 57), _, _, _, _⟩) (.bool true) rfl (by kernel_rfl) (by kernel_rfl) (by kernel_rfl) (fun _ _ _ h => h) (by kernel_rfl) (fun _ _ => by kernel_rfl) ⟨HBX, BX⟩ ?_
  simp only [Act.put, List.setIfInBounds_toArray, List.set_cons_zero, List.set_cons_succ]
  refine held_valg (i := 2) (oi := ⟨some 59, .move (.tmp 13), _, _, _, _⟩) (.int .i64 0) rfl (by kernel_rfl) (by kernel_rfl) (by kernel_rfl) (fun _ _ _ h => h) (by kernel_rfl) (fun _ _ => by kernel_rfl) ⟨HBX, BX⟩ ?_
  simp only [Act.put, List.setIfInBounds_toArray, List.set_cons_zero, List.set_cons_succ]
  refine held_valg (i := 3) (oi := ⟨some 60, .binOp .eql _ (.tmp 59) _ _, _, _, _, _⟩) (.bool true) rfl (by kernel_rfl) (by kernel_rfl) (by kernel_rfl) (fun _ _ _ h => h) (by kernel_rfl) (fun _ _ => by kernel_rfl) ⟨HBX, BX⟩ ?_
  simp only [Act.put, List.setIfInBounds_toArray, List.set_cons_zero, List.set_cons_succ]
  refine held_valg (i := 4) (oi := ⟨some 61, .pick (.tmp 58) (.tmp 60) _, _, _, _, _⟩) (.bool true) rfl (by kernel_rfl) (by kernel_rfl) (by kernel_rfl) (fun _ _ _ h => h) (by kernel_rfl) (fun _ _ => by kernel_rfl) ⟨HBX, BX⟩ ?_
  simp only [Act.put, List.setIfInBounds_toArray, List.set_cons_zero, List.set_cons_succ]
  refine held_valg (i := 5) (oi := ⟨some 62, .move (.tmp 61), _, _, _, _⟩) (.bool true) rfl (by kernel_rfl) (by kernel_rfl) (by kernel_rfl) (fun _ _ _ h => h) (by kernel_rfl) (fun _ _ => by kernel_rfl) ⟨HBX, BX⟩ ?_
  simp only [Act.put, List.setIfInBounds_toArray, List.set_cons_zero, List.set_cons_succ]
  refine held_valg (i := 6) (oi := ⟨some 63, .move (.tmp 17), _, _, _, _⟩) (.slice (some ⟨lq, 0, none⟩) 3 lc) rfl (by kernel_rfl) (by kernel_rfl) (by kernel_rfl) (fun _ _ _ h => h) (by kernel_rfl) (fun _ _ => by kernel_rfl) ⟨HBX, BX⟩ ?_
  simp only [Act.put, List.setIfInBounds_toArray, List.set_cons_zero, List.set_cons_succ]
  refine held_valg (i := 7) (oi := ⟨some 64, .call _, _, _, _, _⟩) (.int .i64 3) rfl (by kernel_rfl) (by kernel_rfl) (by kernel_rfl) (fun _ _ _ h => h) (by kernel_rfl) (fun _ _ => by kernel_rfl) ⟨HBX, BX⟩ ?_
  simp only [Act.put, List.setIfInBounds_toArray, List.set_cons_zero, List.set_cons_succ]
  refine held_valg (i := 8) (oi := ⟨some 65, .binOp .eql _ (.tmp 64) _ _, _, _, _, _⟩) (.bool true) rfl (by kernel_rfl) (by kernel_rfl) (by kernel_rfl) (fun _ _ _ h => h) (by kernel_rfl) (fun _ _ => by kernel_rfl) ⟨HBX, BX⟩ ?_
  simp only [Act.put, List.setIfInBounds_toArray, List.set_cons_zero, List.set_cons_succ]
  refine held_valg (i := 9) (oi := ⟨some 66, .pick (.tmp 62) (.tmp 65) _, _, _, _, _⟩) (.bool true) rfl (by kernel_rfl) (by kernel_rfl) (by kernel_rfl) (fun _ _ _ h => h) (by kernel_rfl) (fun _ _ => by kernel_rfl) ⟨HBX, BX⟩ ?_
  simp only [Act.put, List.setIfInBounds_toArray, List.set_cons_zero, List.set_cons_succ]
  refine held_valg (i := 10) (oi := ⟨some 67, .move (.tmp 66), _, _, _, _⟩) (.bool true) rfl (by kernel_rfl) (by kernel_rfl) (by kernel_rfl) (fun _ _ _ h => h) (by kernel_rfl) (fun _ _ => by kernel_rfl) ⟨HBX, BX⟩ ?_
  simp only [Act.put, List.setIfInBounds_toArray, List.set_cons_zero, List.set_cons_succ]
  refine held_valg (i := 11) (oi := ⟨some 68, .fieldAddr _ (.tmp 15) 1, _, _, _, _⟩) (.pointer (some ⟨g15, 1, none⟩)) rfl (by kernel_rfl) (by kernel_rfl) (by kernel_rfl) (fun _ _ _ h => h) (by kernel_rfl) (fun _ _ => by kernel_rfl) ⟨HBX, BX⟩ ?_
  simp only [Act.put, List.setIfInBounds_toArray, List.set_cons_zero, List.set_cons_succ]
  refine held_valg (i := 12) (oi := ⟨some 69, .indexAddr _ (.tmp 68) _, _, _, _, _⟩) (.pointer (some ⟨g15, 4, none⟩)) rfl (by kernel_rfl) (by kernel_rfl) (by kernel_rfl) (fun _ _ _ h => h) (by kernel_rfl) (fun _ _ => by kernel_rfl) ⟨HBX, BX⟩ ?_
  simp only [Act.put, List.setIfInBounds_toArray, List.set_cons_zero, List.set_cons_succ]
  refine held_valg (i := 13) (oi := ⟨some 70, .load _ (.tmp 69), _, _, _, _⟩) (.int .u64 (zx value (8 * 8))) rfl (by kernel_rfl) (by kernel_rfl) (by kernel_rfl) (fun _ _ _ h => h) (by kernel_rfl) (fun x hx => exec_load_cell rfl rfl ((hx.2.cell 4).trans HF4.out.1) (by kernel_rfl)) ⟨HBX, BX⟩ ?_
  simp only [Act.put, List.setIfInBounds_toArray, List.set_cons_zero, List.set_cons_succ]
  refine held_valg (i := 14) (oi := ⟨some 71, .move (.tmp 1), _, _, _, _⟩) (.int .u64 value) rfl (by kernel_rfl) (by kernel_rfl) (by kernel_rfl) (fun _ _ _ h => h) (by kernel_rfl) (fun _ _ => by kernel_rfl) ⟨HBX, BX⟩ ?_
  simp only [Act.put, List.setIfInBounds_toArray, List.set_cons_zero, List.set_cons_succ]
  refine held_valg (i := 15) (oi := ⟨some 72, .move (.tmp 18), _, _, _, _⟩) (.int .i64 8) rfl (by kernel_rfl) (by kernel_rfl) (by kernel_rfl) (fun _ _ _ h => h) (by kernel_rfl) (fun _ _ => by kernel_rfl) ⟨HBX, BX⟩ ?_
  simp only [Act.put, List.setIfInBounds_toArray, List.set_cons_zero, List.set_cons_succ]
  refine held_valg (i := 16) (oi := ⟨some 73, .binOp .mul _ _ (.tmp 72) _, _, _, _, _⟩) (.int .i64 64) rfl (by kernel_rfl) (by kernel_rfl) (by kernel_rfl) (fun _ _ _ h => h) (by kernel_rfl) (fun _ _ => by kernel_rfl) ⟨HBX, BX⟩ ?_
  simp only [Act.put, List.setIfInBounds_toArray, List.set_cons_zero, List.set_cons_succ]
  refine any_one (i := 17) (by kernel_rfl) ?_
  refine call_opg (oi := ⟨some 74, .call _, _, _, _, _⟩) rfl (by kernel_rfl) (by first | rfl | kernel_rfl) (KX _) ?_
  rintro e w12 ⟨rfl, rfl⟩
  refine ⟨_, rfl, ⟨HBX, BX⟩, ?_⟩
  simp only [Act.put, List.setIfInBounds_toArray, List.set_cons_zero, List.set_cons_succ]
  refine held_valg (i := 18) (oi := ⟨some 75, .binOp .eql _ (.tmp 70) (.tmp 74) _, _, _, _, _⟩) (.bool true) rfl (by kernel_rfl) (by kernel_rfl) (by kernel_rfl) (fun _ _ _ h => h) (by kernel_rfl) (fun _ _ => exec_eq_u64 rfl rfl rfl) ⟨HBX, BX⟩ ?_
  simp only [Act.put, List.setIfInBounds_toArray, List.set_cons_zero, List.set_cons_succ]
  refine held_valg (i := 19) (oi := ⟨some 76, .pick (.tmp 67) (.tmp 75) _, _, _, _, _⟩) (.bool true) rfl (by kernel_rfl) (by kernel_rfl) (by kernel_rfl) (fun _ _ _ h => h) (by kernel_rfl) (fun _ _ => by kernel_rfl) ⟨HBX, BX⟩ ?_
  simp only [Act.put, List.setIfInBounds_toArray, List.set_cons_zero, List.set_cons_succ]
  refine held_valg (i := 20) (oi := ⟨some 77, .move (.tmp 76), _, _, _, _⟩) (.bool true) rfl (by kernel_rfl) (by kernel_rfl) (by kernel_rfl) (fun _ _ _ h => h) (by kernel_rfl) (fun _ _ => by kernel_rfl) ⟨HBX, BX⟩ ?_
  simp only [Act.put, List.setIfInBounds_toArray, List.set_cons_zero, List.set_cons_succ]
  refine held_valg (i := 21) (oi := ⟨some 78, .move (.tmp 16), _, _, _, _⟩) (.slice (some ⟨bm, 0, none⟩) 64 64) rfl (by kernel_rfl) (by kernel_rfl) (by kernel_rfl) (fun _ _ _ h => h) (by kernel_rfl) (fun _ _ => by kernel_rfl) ⟨HBX, BX⟩ ?_
  simp only [Act.put, List.setIfInBounds_toArray, List.set_cons_zero, List.set_cons_succ]
  refine held_valg (i := 22) (oi := ⟨some 79, .call _, _, _, _, _⟩) (.int .i64 64) rfl (by kernel_rfl) (by kernel_rfl) (by kernel_rfl) (fun _ _ _ h => h) (by kernel_rfl) (fun _ _ => by kernel_rfl) ⟨HBX, BX⟩ ?_
  simp only [Act.put, List.setIfInBounds_toArray, List.set_cons_zero, List.set_cons_succ]
  refine held_valg (i := 23) (oi := ⟨some 80, .binOp .eql _ (.tmp 79) _ _, _, _, _, _⟩) (.bool true) rfl (by kernel_rfl) (by kernel_rfl) (by kernel_rfl) (fun _ _ _ h => h) (by kernel_rfl) (fun _ _ => by kernel_rfl) ⟨HBX, BX⟩ ?_
  simp only [Act.put, List.setIfInBounds_toArray, List.set_cons_zero, List.set_cons_succ]
  refine held_valg (i := 24) (oi := ⟨some 81, .pick (.tmp 77) (.tmp 80) _, _, _, _, _⟩) (.bool true) rfl (by kernel_rfl) (by kernel_rfl) (by kernel_rfl) (fun _ _ _ h => h) (by kernel_rfl) (fun _ _ => by kernel_rfl) ⟨HBX, BX⟩ ?_
  simp only [Act.put, List.setIfInBounds_toArray, List.set_cons_zero, List.set_cons_succ]
  refine held_valg (i := 25) (oi := ⟨some 82, .move (.tmp 81), _, _, _, _⟩) (.bool true) rfl (by kernel_rfl) (by kernel_rfl) (by kernel_rfl) (fun _ _ _ h => h) (by kernel_rfl) (fun _ _ => by kernel_rfl) ⟨HBX, BX⟩ ?_
  simp only [Act.put, List.setIfInBounds_toArray, List.set_cons_zero, List.set_cons_succ]
  refine held_valg (i := 26) (oi := ⟨some 83, .fieldAddr _ (.tmp 15) 2, _, _, _, _⟩) (.pointer (some ⟨g15, 33, none⟩)) rfl (by kernel_rfl) (by kernel_rfl) (by kernel_rfl) (fun _ _ _ h => h) (by kernel_rfl) (fun _ _ => by kernel_rfl) ⟨HBX, BX⟩ ?_
  simp only [Act.put, List.setIfInBounds_toArray, List.set_cons_zero, List.set_cons_succ]
  refine held_valg (i := 27) (oi := ⟨some 84, .load _ (.tmp 83), _, _, _, _⟩) (.int .i64 2) rfl (by kernel_rfl) (by kernel_rfl) (by kernel_rfl) (fun _ _ _ h => h) (by kernel_rfl) (fun x hx => exec_load_cell rfl rfl ((hx.2.cell 33).trans HF4.out.2) (by kernel_rfl)) ⟨HBX, BX⟩ ?_
  simp only [Act.put, List.setIfInBounds_toArray, List.set_cons_zero, List.set_cons_succ]
  refine held_valg (i := 28) (oi := ⟨some 85, .binOp .eql _ (.tmp 84) _ _, _, _, _, _⟩) (.bool true) rfl (by kernel_rfl) (by kernel_rfl) (by kernel_rfl) (fun _ _ _ h => h) (by kernel_rfl) (fun _ _ => by kernel_rfl) ⟨HBX, BX⟩ ?_
  simp only [Act.put, List.setIfInBounds_toArray, List.set_cons_zero, List.set_cons_succ]
  refine held_valg (i := 29) (oi := ⟨some 86, .pick (.tmp 82) (.tmp 85) _, _, _, _, _⟩) (.bool true) rfl (by kernel_rfl) (by kernel_rfl) (by kernel_rfl) (fun _ _ _ h => h) (by kernel_rfl) (fun _ _ => by kernel_rfl) ⟨HBX, BX⟩ ?_
  simp only [Act.put, List.setIfInBounds_toArray, List.set_cons_zero, List.set_cons_succ]
  refine held_valg (i := 30) (oi := ⟨some 6, .assign (.tmp 86), _, _, _, _⟩) (.bool true) rfl (by kernel_rfl) (by kernel_rfl) (by kernel_rfl) (fun _ _ _ h => h) (by kernel_rfl) (fun _ _ => by kernel_rfl) ⟨HBX, BX⟩ ?_
  simp only [Act.put, List.setIfInBounds_toArray, List.set_cons_zero, List.set_cons_succ]
  refine wpAnyH_done (by kernel_rfl) ?_ _
  go_wp2
  go_ret
  exact ⟨rfl, HBX⟩
theorem stores_law {W : World} (T : TabQ W) (at_ value n_ : Int) (hat : 0 ≤ at_ ∧ at_ < 256) (hv : U64 value) (hn : 0 ≤ n_ ∧ n_ < 256) :
    Calls Tryz.prog 9 #[.int .u8 at_, .int .u64 value, .int .u8 n_] W fun e w' => e = .returned (.bool true) ∧ Below W.heap.size W w' := by
  obtain ⟨j, h0, h8, hj⟩ := eights hat
  have hadr : U64 (8 * j) := ⟨by omega, by omega⟩
  have hk : n_ % 4 = 0 ∨ n_ % 4 = 1 ∨ n_ % 4 = 2 ∨ n_ % 4 = 3 := by omega
  rcases hk with hk | hk | hk | hk
  · exact stores_a T at_ value n_ hat hv hn hk h0 h8 hj hadr
  · exact stores_b T at_ value n_ hat hv hn hk h0 h8 hj hadr
  · exact stores_c T at_ value n_ hat hv hn hk h0 h8 hj hadr
  · exact stores_d T at_ value n_ hat hv hn hk h0 h8 hj hadr
end Go.Proofs.YtolmecnjolfjgaaGreatDoor
