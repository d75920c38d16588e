/- The document's memory: its bytes and tags, by the log. -/
import Derived.Test.YteoemjhhjnkkiaaYa
import Derived.Test.YteoemjhhjnkkiaaWc
set_option maxRecDepth 100000
set_option linter.unusedVariables false
namespace Go.Proofs.Yteoemjhhjnkkiaa
open Go.RowKit

/-- The local copy of a write. -/
def SY (w : World) (y : Wr) (g : Nat) (x : World) : Prop := BW w x ∧ Blk (wrCells y) 31 g x
theorem log_lt {s : Mst} (h : MsOk s) {j : Nat} (hj : j < s.l.length) : 0 ≤ s.l[j].addr ∧ s.l[j].addr + s.l[j].size ≤ 1024 ∧ 1 ≤ s.l[j].size ∧ s.l[j].size ≤ 8 ∧ 0 ≤ s.l[j].data ∧ s.l[j].data < 2 ^ 64 := by
  have hw := h.log _ (List.getElem_mem hj)
  have hm := mayP_out hw.may
  have hn := h.n
  have hd := hw.data
  unfold Mst.n at hm
  omega
set_option maxHeartbeats 8000000 in
theorem rbyte_c {s : Mst} {p : Plr} {w : World} (h : RrAt s p w) (hok : MsOk s) (hl : s.l.length ≤ 1000) (c : Nat) (hc : c < s.b0.length) :
    Calls Try.prog 38 #[.pointer (some ⟨p.g, 0, none⟩), .int .i64 (c : Int)] w fun e w' => e = .returned (.tuple #[.int .u8 (lastB s.b0 s.l c).1, .int .i64 (lastB s.b0 s.l c).2]) ∧ BW w w' := by
  obtain ⟨AL, cL, hvl, -⟩ := own_parts h.log
  obtain ⟨AA, cA, hva, -⟩ := own_parts h.byt
  have hlog := h.log
  rw [hvl] at hlog
  have hrl := Rd.of_row hlog
  have hbyt := h.byt
  rw [hva] at hbyt
  have hrb := Rd.of_row hbyt
  have g0 : w.cell? ⟨p.g, 0, none⟩ = some (.slice AA s.b0.length cA) := by have := h.head.cell 0; rw [hva] at this; exact this
  have g1 : w.cell? ⟨p.g, 1, none⟩ = some (.slice AL s.l.length cL) := by have := h.head.cell 1; rw [hvl] at this; exact this
  have hgl := h.head.lt
  have HCG := Lib.hid (fun (x : World) (hb : BW w x) => (⟨(Below.cell hb hgl).trans g0, (Below.cell hb hgl).trans g1⟩ : x.cell? ⟨p.g, 0, none⟩ = some (.slice AA s.b0.length cA) ∧ x.cell? ⟨p.g, 1, none⟩ = some (.slice AL s.l.length cL)))
  obtain ⟨ba, oa, hAA, hca⟩ := rd_cell hrb (q := c) (v := .int .u8 (s.b0.getD c 0)) (by unfold cellsB; rw [List.getElem?_map, List.getD_eq_getElem?_getD, List.getElem?_eq_getElem hc]; rfl)
  have HCA := Lib.hid hca
  have HRL := Lib.hid hrl
  have HOK := Lib.hid hok
  subst hAA
  have hci : (c : Int) ≤ 1024 := by have := hok.n; omega
  have hcl' : (c : Int) < (s.b0.length : Int) := by omega
  have HBB : Hid (BW w w) := Below.refl _ _
  clear h hvl hva hlog hrl hbyt hrb g0 hca hgl hok
  go_enter Try.func38, Try.ntmps38
  go_wp2
  clear g1
  go_loopw [6] (fun i wx => ∃ j : Nat, j ≤ s.l.length ∧ i = .int .i64 ((j : Int) - 1) ∧ lastB s.b0 (s.l.take j) c = lastB s.b0 s.l c ∧ BW w wx) (fun i _ => (intOf i + 1).toNat)
  case atStart => exact ⟨s.l.length, by omega, rfl, by rw [List.take_length], HBB.out⟩
  case round =>
    obtain ⟨j, hj0, rfl, hla, hbw⟩ := hrel
    clear HBB
    have HLA := Lib.hid hla
    have HBW := Lib.hid hbw
    have gg := HCG.out wr hbw
    obtain ⟨g0, g1⟩ := gg
    clear hla hbw
    rcases Nat.eq_zero_or_pos j with rfl | hjp
    · have hneg : ¬ (0 : Int) ≤ ((0 : Nat) : Int) - 1 := by omega
      have ga := HCA.out wr HBW.out
      have hz : lastB s.b0 s.l c = (s.b0.getD c 0, -1) := by rw [← HLA.out]; rfl
      have hn1 : (((0 : Nat) : Int) - 1) = -1 := rfl
      rw [hn1]
      obtain ⟨x0, hx0⟩ : ∃ x0, s.b0.getD c 0 = x0 := ⟨_, rfl⟩
      rw [hx0] at hz ga
      have HZ := Lib.hid hz
      clear hz hneg hn1 hj0 hx0
      go_wp2
      go_ret2
      refine ⟨?_, HBW.out⟩
      rw [HZ.out]
      rfl
    · obtain ⟨i, rfl⟩ : ∃ i, j = i + 1 := ⟨j - 1, by omega⟩
      have ei : ((i + 1 : Nat) : Int) - 1 = (i : Int) := by omega
      rw [ei]
      have hi : i < s.l.length := by omega
      have hi' : (i : Int) < (s.l.length : Int) := by omega
      obtain ⟨bl, ol, hAL, hbl, hcell⟩ := wr_cell HRL.out (by omega)
      have hat := hcell i hi
      have hlt := log_lt HOK.out hi
      have htk := lastB_take s.b0 s.l i c hi
      obtain ⟨⟨yi, ya, yz, yd⟩, hx⟩ : ∃ x, s.l[i] = x := ⟨_, rfl⟩
      rw [hx] at hat hlt htk
      obtain ⟨h1a, h2a, h3a, h4a, h5a, h6a⟩ := hlt
      simp only at h1a h2a h3a h4a h5a h6a
      have l0 := (Below.cell HBW.out (p := ⟨bl, ol + i * 4, none⟩) hbl).trans hat.1
      have l1 := (Below.cell HBW.out (p := ⟨bl, ol + i * 4 + 1, none⟩) hbl).trans hat.2.1
      have l2 := (Below.cell HBW.out (p := ⟨bl, ol + i * 4 + 2, none⟩) hbl).trans hat.2.2.1
      have l3 := (Below.cell HBW.out (p := ⟨bl, ol + i * 4 + 3, none⟩) hbl).trans hat.2.2.2
      have HTK := Lib.hid htk
      have HSY : Hid (SY w ⟨yi, ya, yz, yd⟩ wr.heap.size (wr.alloc (.cells #[.int .i64 yi, .int .i64 ya, .int .i64 yz, .int .u64 yd] 31))) := ⟨BW.new HBW.out _, Blk.new _ _ _⟩
      have hhb : ¬ (ya ≤ (c : Int) ∧ (c : Int) < ya + yz) → hasB ⟨yi, ya, yz, yd⟩ c = false := fun h => by
        unfold hasB
        simp only
        by_cases h1 : ya ≤ (c : Int)
        · rw [decide_eq_true h1, decide_eq_false (fun h2 => h ⟨h1, h2⟩)]; rfl
        · rw [decide_eq_false h1]; rfl
      have HHB := Lib.hid hhb
      subst hAL
      clear hcell hat htk hx hhb hbl ei
      by_cases h1 : ya ≤ (c : Int)
      · by_cases h2 : (c : Int) < ya + yz
        · have hyb : hasB ⟨yi, ya, yz, yd⟩ c = true := by
            unfold hasB
            simp only
            rw [decide_eq_true h1, decide_eq_true h2]; rfl
          have HFIN : Hid (lastB s.b0 s.l c = (byteAt yd ((c : Int) - ya).toNat, yi)) := by
            show _ = _
            rw [← HLA.out, HTK.out, stepB_yes hyb]
          clear hyb
          go_upto_region 6 with (fail)
          have HS : SY w ⟨yi, ya, yz, yd⟩ wr.heap.size (World.drew _) := ⟨HSY.out.1.on (Below.drew (Below.refl _ _)), HSY.out.2.drew⟩
          clear HSY
          refine wp_region_held (S := fun x => SY w ⟨yi, ya, yz, yd⟩ wr.heap.size x) (by kernel_rfl) ?_
          change wpAnyH _ _ _ _ _ _ _ _ (World.drew _)
          generalize World.drew _ = w8 at *
          refine hk_val (i := 0) (oi := ⟨some 38, .fieldAddr _ _ _, _, _, _, _⟩) (.pointer (some ⟨wr.heap.size, 3, none⟩)) rfl (by kernel_rfl) (by kernel_rfl) (by kernel_rfl) (fun _ _ _ h => h) (by kernel_rfl) (fun _ _ => by kernel_rfl) HS ?_
          simp only [Act.put, List.setIfInBounds_toArray, List.set_cons_zero, List.set_cons_succ]
          refine hk_val (i := 1) (oi := ⟨some 39, .load _ _, _, _, _, _⟩) (.int .u64 yd) rfl (by kernel_rfl) (by kernel_rfl) (by kernel_rfl) (fun _ _ _ h => h) (by kernel_rfl) (fun x hx => ex_load rfl rfl (hx.2.cell 3) (by kernel_rfl)) HS ?_
          simp only [Act.put, List.setIfInBounds_toArray, List.set_cons_zero, List.set_cons_succ]
          refine hk_val (i := 2) (oi := ⟨some 40, .move _, _, _, _, _⟩) (.int .i64 (c : Int)) rfl (by kernel_rfl) (by kernel_rfl) (by kernel_rfl) (fun _ _ _ h => h) (by kernel_rfl) (fun _ _ => rfl) HS ?_
          simp only [Act.put, List.setIfInBounds_toArray, List.set_cons_zero, List.set_cons_succ]
          refine hk_val (i := 3) (oi := ⟨some 41, .fieldAddr _ _ _, _, _, _, _⟩) (.pointer (some ⟨wr.heap.size, 1, none⟩)) rfl (by kernel_rfl) (by kernel_rfl) (by kernel_rfl) (fun _ _ _ h => h) (by kernel_rfl) (fun _ _ => by kernel_rfl) HS ?_
          simp only [Act.put, List.setIfInBounds_toArray, List.set_cons_zero, List.set_cons_succ]
          refine hk_val (i := 4) (oi := ⟨some 42, .load _ _, _, _, _, _⟩) (.int .i64 ya) rfl (by kernel_rfl) (by kernel_rfl) (by kernel_rfl) (fun _ _ _ h => h) (by kernel_rfl) (fun x hx => ex_load rfl rfl (hx.2.cell 1) (by kernel_rfl)) HS ?_
          simp only [Act.put, List.setIfInBounds_toArray, List.set_cons_zero, List.set_cons_succ]
          refine hk_val (i := 5) (oi := ⟨some 43, .binOp _ _ _ _ _, _, _, _, _⟩) (.int .i64 ((c : Int) - ya)) rfl (by kernel_rfl) (by kernel_rfl) (by kernel_rfl) (fun _ _ _ h => h) (by kernel_rfl) (fun _ _ => ex_subI rfl rfl rfl (by omega)) HS ?_
          simp only [Act.put, List.setIfInBounds_toArray, List.set_cons_zero, List.set_cons_succ]
          refine hk_val (i := 6) (oi := ⟨some 44, .binOp _ _ _ _ _, _, _, _, _⟩) (.int .i64 (8 * ((c : Int) - ya))) rfl (by kernel_rfl) (by kernel_rfl) (by kernel_rfl) (fun _ _ _ h => h) (by kernel_rfl) (fun _ _ => ex_mulI rfl rfl rfl (by omega)) HS ?_
          simp only [Act.put, List.setIfInBounds_toArray, List.set_cons_zero, List.set_cons_succ]
          refine hk_val (i := 7) (oi := ⟨some 45, .convert _ _ _, _, _, _, _⟩) (.int .u64 (8 * ((c : Int) - ya))) rfl (by kernel_rfl) (by kernel_rfl) (by kernel_rfl) (fun _ _ _ h => h) (by kernel_rfl) (fun _ _ => ex_uint rfl rfl (by omega) (by omega) Try.underlying3 Try.underlying51) HS ?_
          simp only [Act.put, List.setIfInBounds_toArray, List.set_cons_zero, List.set_cons_succ]
          refine hk_val (i := 8) (oi := ⟨some 46, .binOp _ _ _ _ _, _, _, _, _⟩) (.int .u64 (yd / 2 ^ (8 * ((c : Int) - ya)).toNat)) rfl (by kernel_rfl) (by kernel_rfl) (by kernel_rfl) (fun _ _ _ h => h) (by kernel_rfl) (fun _ _ => ex_shr rfl rfl rfl (by omega) (by omega)) HS ?_
          simp only [Act.put, List.setIfInBounds_toArray, List.set_cons_zero, List.set_cons_succ]
          refine hk_val (i := 9) (oi := ⟨some 47, .convert _ _ _, _, _, _, _⟩) (.int .u8 (yd / 2 ^ (8 * ((c : Int) - ya)).toNat % 256)) rfl (by kernel_rfl) (by kernel_rfl) (by kernel_rfl) (fun _ _ _ h => h) (by kernel_rfl) (fun _ _ => ex_byte rfl rfl Try.underlying29 Try.underlying5) HS ?_
          simp only [Act.put, List.setIfInBounds_toArray, List.set_cons_zero, List.set_cons_succ]
          refine hk_val (i := 10) (oi := ⟨some 48, .fieldAddr _ _ _, _, _, _, _⟩) (.pointer (some ⟨wr.heap.size, 0, none⟩)) rfl (by kernel_rfl) (by kernel_rfl) (by kernel_rfl) (fun _ _ _ h => h) (by kernel_rfl) (fun _ _ => by kernel_rfl) HS ?_
          simp only [Act.put, List.setIfInBounds_toArray, List.set_cons_zero, List.set_cons_succ]
          refine hk_val (i := 11) (oi := ⟨some 49, .load _ _, _, _, _, _⟩) (.int .i64 yi) rfl (by kernel_rfl) (by kernel_rfl) (by kernel_rfl) (fun _ _ _ h => h) (by kernel_rfl) (fun x hx => ex_load rfl rfl (hx.2.cell 0) (by kernel_rfl)) HS ?_
          simp only [Act.put, List.setIfInBounds_toArray, List.set_cons_zero, List.set_cons_succ]
          refine hk_val (i := 12) (oi := ⟨some 4, .assign _, _, _, _, _⟩) (.int .u8 (yd / 2 ^ (8 * ((c : Int) - ya)).toNat % 256)) rfl (by kernel_rfl) (by kernel_rfl) (by kernel_rfl) (fun _ _ _ h => h) (by kernel_rfl) (fun _ _ => rfl) HS ?_
          simp only [Act.put, List.setIfInBounds_toArray, List.set_cons_zero, List.set_cons_succ]
          refine hk_val (i := 13) (oi := ⟨some 5, .assign _, _, _, _, _⟩) (.int .i64 yi) rfl (by kernel_rfl) (by kernel_rfl) (by kernel_rfl) (fun _ _ _ h => h) (by kernel_rfl) (fun _ _ => rfl) HS ?_
          simp only [Act.put, List.setIfInBounds_toArray, List.set_cons_zero, List.set_cons_succ]
          refine wpAnyH_done (by kernel_rfl) ?_ _
          rw [show yd / 2 ^ (8 * ((c : Int) - ya)).toNat % 256 = byteAt yd ((c : Int) - ya).toNat by rw [show (8 * ((c : Int) - ya)).toNat = 8 * ((c : Int) - ya).toNat by omega]; exact byte_shift _ _]
          go_wp2
          go_ret2
          refine ⟨?_, HS.1⟩
          rw [HFIN.out]
          rfl
        · have hno := HHB.out (fun h => h2 h.2)
          have HE : Hid (lastB s.b0 (s.l.take i) c = lastB s.b0 s.l c) := by
            show _ = _
            rw [← HLA.out, HTK.out, stepB_no hno]
          clear hno
          go_wp2
          go_roundw
          case rel => exact ⟨i, by omega, rfl, HE.out, HSY.out.1⟩
          case measure => simp [intOf]
      · have hno := HHB.out (fun h => h1 h.1)
        have HE : Hid (lastB s.b0 (s.l.take i) c = lastB s.b0 s.l c) := by
          show _ = _
          rw [← HLA.out, HTK.out, stepB_no hno]
        clear hno
        go_wp2
        go_roundw
        case rel => exact ⟨i, by omega, rfl, HE.out, HSY.out.1⟩
        case measure => simp [intOf]
set_option maxHeartbeats 8000000 in
theorem rbytes_c12 {s : Mst} {p : Plr} {w : World} (h : RrAt s p w) (hok : MsOk s) (hl : s.l.length ≤ 1000) : Calls Try.prog 41 #[.pointer (some ⟨p.g, 0, none⟩)] w (RetOwn w 5 1 s.b0.length (cellsB (bytesM s.b0 s.l))) := by
  obtain ⟨AA, cA, hva, -⟩ := own_parts h.byt
  have g0 : w.cell? ⟨p.g, 0, none⟩ = some (.slice AA s.b0.length cA) := by have := h.head.cell 0; rw [hva] at this; exact this
  have hgl := h.head.lt
  have HCG := Lib.hid (fun (x : World) (hb : BW w x) => (Below.cell hb (p := ⟨p.g, 0, none⟩) hgl).trans g0)
  have HBY := Lib.hid (fun (x : World) (hb : BW w x) (k : Nat) (hk : k < s.b0.length) => rbyte_c (h.on hb) hok hl k hk)
  have hn := hok.n
  have HR0 : Hid (w.ownsRow w.heap.size 5 1 (.slice none 0 0) 0 (cellsB ((bytesM s.b0 s.l).take 0))) := World.ownsRow_nil _ _ _ _
  have HLN := Lib.hid (bytesM_len s.b0 s.l)
  have HB0 : Hid (BW w w) := Below.refl _ _
  have hnI : (s.b0.length : Int) ≤ 9223372036854775807 := by omega
  clear h hva g0 hgl hok
  go_enter Try.func41, Try.ntmps41
  go_wp2
  go_loopw [3, 4] (fun v i wx => ∃ k : Nat, k ≤ s.b0.length ∧ i = .int .i64 (k : Int) ∧ wx.ownsRow w.heap.size 5 1 v k (cellsB ((bytesM s.b0 s.l).take k)) ∧ BW w wx) (fun _ i _ => s.b0.length - (intOf i).toNat)
  case atStart => exact ⟨0, by omega, rfl, HR0.out, HB0.out⟩
  case round =>
    obtain ⟨k, hk0, rfl, hrow, hbw⟩ := hrel
    clear HR0 HB0
    have HRW := Lib.hid hrow
    have HBW := Lib.hid hbw
    have g0 := HCG.out wr hbw
    clear hrow hbw
    by_cases hk : k < s.b0.length
    · have hk' : (k : Int) < (s.b0.length : Int) := by omega
      have hby := HBY.out wr HBW.out k hk
      have hat := bytesM_at s.b0 s.l k hk
      obtain ⟨pr, hpr⟩ : ∃ pr, lastB s.b0 s.l k = pr := ⟨_, rfl⟩
      obtain ⟨p1, p2⟩ := pr
      rw [hpr] at hby hat
      have HPB := Lib.hid hby
      have HAT := Lib.hid hat
      obtain ⟨A0, c0, hv0, -⟩ := own_parts HRW.out
      subst hv0
      clear hby hat hpr
      go_wp2_with fail
      refine HPB.out.mono ?_
      rintro e w2 ⟨rfl, hb2⟩
      have HRW2 := Lib.hid ((Fr.of [] hb2).row HRW.out (by simp))
      have HBW2 := Lib.hid (HBW.out.on hb2)
      have hz2 : w.heap.size ≤ w2.heap.size := Below.size HBW2.out
      clear HRW HBW hb2 HPB g0
      go_wp2_with (at_builtin; refine append_rd rfl _ _ _ 5 rfl (.int .u8 0) 1 1 (by kernel_rfl) Try.underlying22 rfl (by decide) w.heap.size _ k _ rfl (HRW2.out.alloc _) ⟨w2.heap.size, 0, none⟩ 1 1 _ rfl rfl (rd_new w2 _ _) (by intro u hu; simp at hu; rw [hu]; rfl) (by unfold maxLen; omega) (by omega) (by simp; omega) ?_; intro v' w3 ho3 hg3)
      have HRW3 : Hid (w3.ownsRow w.heap.size 5 1 v' (k + 1) (cellsB ((bytesM s.b0 s.l).take (k + 1)))) := by
        show World.ownsRow _ _ _ _ _ _ _
        have e1 : cellsB ((bytesM s.b0 s.l).take (k + 1)) = cellsB ((bytesM s.b0 s.l).take k) ++ [.int .u8 p1] := by
          have hlt : k < (cellsB (bytesM s.b0 s.l)).length := by unfold cellsB; rw [List.length_map, HLN.out]; exact hk
          have h2 := HAT.out
          rw [List.getElem?_eq_getElem hlt] at h2
          have h3 : (cellsB (bytesM s.b0 s.l)).take (k + 1) = (cellsB (bytesM s.b0 s.l)).take k ++ [(cellsB (bytesM s.b0 s.l))[k]] := List.take_succ_eq_append_getElem hlt
          rw [Option.some.inj h2] at h3
          unfold cellsB at h3 ⊢
          rw [List.map_take, List.map_take]
          exact h3
        rw [e1]
        exact ho3
      have HBW3 := Lib.hid (((HBW2.out.new (.cells _ _)).grown hg3 (Below.size (HBW2.out.new (.cells _ _))) (fun q hq => (HRW2.out.lt q hq).1)) : BW w w3)
      clear ho3 hg3 HRW2 HBW2 hz2
      go_wp2
      go_roundw
      case rel => exact ⟨k + 1, by omega, by go_num, HRW3.out, HBW3.out⟩
      case measure => simp [intOf]; omega
    · obtain rfl : k = s.b0.length := by omega
      have hk' : ¬ (s.b0.length : Int) < (s.b0.length : Int) := by omega
      have HF := Lib.hid HRW.out
      go_wp2
      go_ret
      refine ⟨_, rfl, ?_, HBW.out⟩
      have h3 := HF.out
      rw [List.take_of_length_le (by rw [HLN.out]; omega)] at h3
      exact h3
set_option maxHeartbeats 8000000 in
theorem rtags_c12 {s : Mst} {p : Plr} {w : World} (h : RrAt s p w) (hok : MsOk s) (hl : s.l.length ≤ 1000) : Calls Try.prog 42 #[.pointer (some ⟨p.g, 0, none⟩)] w (RetOwn w 3 1 s.b0.length (cellsI (tagsM s.b0 s.l))) := by
  obtain ⟨AA, cA, hva, -⟩ := own_parts h.byt
  have g0 : w.cell? ⟨p.g, 0, none⟩ = some (.slice AA s.b0.length cA) := by have := h.head.cell 0; rw [hva] at this; exact this
  have hgl := h.head.lt
  have HCG := Lib.hid (fun (x : World) (hb : BW w x) => (Below.cell hb (p := ⟨p.g, 0, none⟩) hgl).trans g0)
  have HBY := Lib.hid (fun (x : World) (hb : BW w x) (k : Nat) (hk : k < s.b0.length) => rbyte_c (h.on hb) hok hl k hk)
  have hn := hok.n
  have HR0 : Hid (w.ownsRow w.heap.size 3 1 (.slice none 0 0) 0 (cellsI ((tagsM s.b0 s.l).take 0))) := World.ownsRow_nil _ _ _ _
  have HLN := Lib.hid (tagsM_len s.b0 s.l)
  have HB0 : Hid (BW w w) := Below.refl _ _
  have hnI : (s.b0.length : Int) ≤ 9223372036854775807 := by omega
  clear h hva g0 hgl hok
  go_enter Try.func42, Try.ntmps42
  go_wp2
  go_loopw [3, 4] (fun v i wx => ∃ k : Nat, k ≤ s.b0.length ∧ i = .int .i64 (k : Int) ∧ wx.ownsRow w.heap.size 3 1 v k (cellsI ((tagsM s.b0 s.l).take k)) ∧ BW w wx) (fun _ i _ => s.b0.length - (intOf i).toNat)
  case atStart => exact ⟨0, by omega, rfl, HR0.out, HB0.out⟩
  case round =>
    obtain ⟨k, hk0, rfl, hrow, hbw⟩ := hrel
    clear HR0 HB0
    have HRW := Lib.hid hrow
    have HBW := Lib.hid hbw
    have g0 := HCG.out wr hbw
    clear hrow hbw
    by_cases hk : k < s.b0.length
    · have hk' : (k : Int) < (s.b0.length : Int) := by omega
      have hby := HBY.out wr HBW.out k hk
      have hat := tagsM_at s.b0 s.l k hk
      obtain ⟨pr, hpr⟩ : ∃ pr, lastB s.b0 s.l k = pr := ⟨_, rfl⟩
      obtain ⟨p1, p2⟩ := pr
      rw [hpr] at hby hat
      have HPB := Lib.hid hby
      have HAT := Lib.hid hat
      obtain ⟨A0, c0, hv0, -⟩ := own_parts HRW.out
      subst hv0
      clear hby hat hpr
      go_wp2_with fail
      refine HPB.out.mono ?_
      rintro e w2 ⟨rfl, hb2⟩
      have HRW2 := Lib.hid ((Fr.of [] hb2).row HRW.out (by simp))
      have HBW2 := Lib.hid (HBW.out.on hb2)
      have hz2 : w.heap.size ≤ w2.heap.size := Below.size HBW2.out
      clear HRW HBW hb2 HPB g0
      go_wp2_with (at_builtin; refine append_rd rfl _ _ _ 3 rfl (.int .i64 0) 1 8 (by kernel_rfl) Try.underlying37 rfl (by decide) w.heap.size _ k _ rfl (HRW2.out.alloc _) ⟨w2.heap.size, 0, none⟩ 1 1 _ rfl rfl (rd_new w2 _ _) (by intro u hu; simp at hu; rw [hu]; rfl) (by unfold maxLen; omega) (by omega) (by simp; omega) ?_; intro v' w3 ho3 hg3)
      have HRW3 : Hid (w3.ownsRow w.heap.size 3 1 v' (k + 1) (cellsI ((tagsM s.b0 s.l).take (k + 1)))) := by
        show World.ownsRow _ _ _ _ _ _ _
        have e1 : cellsI ((tagsM s.b0 s.l).take (k + 1)) = cellsI ((tagsM s.b0 s.l).take k) ++ [.int .i64 p2] := by
          have hlt : k < (cellsI (tagsM s.b0 s.l)).length := by unfold cellsI; rw [List.length_map, HLN.out]; exact hk
          have h2 := HAT.out
          rw [List.getElem?_eq_getElem hlt] at h2
          have h3 : (cellsI (tagsM s.b0 s.l)).take (k + 1) = (cellsI (tagsM s.b0 s.l)).take k ++ [(cellsI (tagsM s.b0 s.l))[k]] := List.take_succ_eq_append_getElem hlt
          rw [Option.some.inj h2] at h3
          unfold cellsI at h3 ⊢
          rw [List.map_take, List.map_take]
          exact h3
        rw [e1]
        exact ho3
      have HBW3 := Lib.hid (((HBW2.out.new (.cells _ _)).grown hg3 (Below.size (HBW2.out.new (.cells _ _))) (fun q hq => (HRW2.out.lt q hq).1)) : BW w w3)
      clear ho3 hg3 HRW2 HBW2 hz2
      go_wp2
      go_roundw
      case rel => exact ⟨k + 1, by omega, by go_num, HRW3.out, HBW3.out⟩
      case measure => simp [intOf]; omega
    · obtain rfl : k = s.b0.length := by omega
      have hk' : ¬ (s.b0.length : Int) < (s.b0.length : Int) := by omega
      have HF := Lib.hid HRW.out
      go_wp2
      go_ret
      refine ⟨_, rfl, ?_, HBW.out⟩
      have h3 := HF.out
      rw [List.take_of_length_le (by rw [HLN.out]; omega)] at h3
      exact h3
end Go.Proofs.Yteoemjhhjnkkiaa
