/- RamLast: each byte's tag is the number of the last write of the log that has it, and its value that write's. -/
import Derived.Test.YteoemjhhjnkkiaaMl
import Derived.Test.YteoemjhhjnkkiaaMo
import Derived.Test.YteoemjhhjnkkiaaWc
set_option maxRecDepth 100000
set_option linter.unusedVariables false
namespace Go.Proofs.Yteoemjhhjnkkiaa
open Go.RowKit

theorem stoM_ok {s : Mst} (h : MsOk s) (t : Int) (x : Wr) (hx : 0 ≤ x.data ∧ x.data < 2 ^ 64) : MsOk (stoM s t x) := by
  unfold stoM
  split
  · rename_i hok
    refine ⟨h.n, h.byts, fun y hy => ?_⟩
    rcases List.mem_append.1 hy with h1 | h1
    · exact h.log y h1
    · have e : y = low x := by simpa using h1
      subst e
      unfold stoOk at hok
      simp only [Bool.and_eq_true, decide_eq_true_eq] at hok
      have hmo := mayP_out hok.1
      refine ⟨hok.1, hok.2.1, zx_nonneg _ _, ?_⟩
      show zx x.data (8 * x.size.toNat) < 2 ^ 64
      have a := zx_lt x.data (8 * x.size.toNat)
      have b : (2 : Int) ^ (8 * x.size.toNat) ≤ 2 ^ 64 := two_pow_le (by omega)
      omega
  · exact h
theorem runS_ok {s : Mst} (h : MsOk s) {l : List Ac} (hl : Wacs l) : ∀ k, k ≤ l.length → MsOk (runS s l k)
  | 0, _ => by rw [runS_zero]; exact h
  | k + 1, hk => by
    rw [runS_succ s l k (by omega)]
    exact stoM_ok (runS_ok h hl k (by omega)) _ _ (hl _ (List.getElem_mem (by omega))).w.data
set_option maxHeartbeats 16000000 in
theorem last_walk (A : Option Addr) (cap : Nat) (img : List Int) (B : Option Addr) (bap : Nat) (l : List Ac) (W : World) (hl : img.length ≤ cap) (hcap : cap ≤ 9223372036854775807) (hA : A = none → cap = 0 ∧ img = []) (hby : Byts img) (hr : Rd W W.heap.size A (cellsB img))
    (hm : l.length ≤ bap) (hbap : bap ≤ 9223372036854775807) (hws : Wacs l) (hra : Rd W W.heap.size B (cellsA l)) :
    Calls Try.prog 5 #[.slice A img.length cap, .slice B l.length bap] W fun e w' => e = .returned (.bool true) ∧ BW W w' := by
  have HAL := Lib.hid (fun w => alive12_any w)
  have hi2 : img.length ≤ 9223372036854775807 := by omega
  have hl2 : l.length ≤ 9223372036854775807 := by omega
  by_cases h2 : 200 < img.length
  · have h2' : (200 : Int) < (img.length : Int) := by omega
    go_enter Try.func5, Try.ntmps5
    go_wp2_with fail
    refine (HAL.out _).mono ?_
    rintro e w1 ⟨rfl, hb⟩
    have HB1 := Lib.hid hb
    clear hb
    go_wp2_with fail
    refine (HAL.out _).mono ?_
    rintro e w2 ⟨rfl, hb⟩
    go_wp2
    go_ret
    exact ⟨rfl, HB1.out.on hb⟩
  · have h2' : ¬ (200 : Int) < (img.length : Int) := by omega
    have hb00 : (newM img).b0 = img := by show img.take 1024 = img; rw [List.take_of_length_le (by omega)]
    have hok0 := newM_ok hby
    go_enter Try.func5, Try.ntmps5
    go_wp2_with fail
    refine (HAL.out _).mono ?_
    rintro e w1 ⟨rfl, hb⟩
    have HB1 := Lib.hid hb
    have hr1 := (hr.below hb).mono (Below.size hb)
    have HNEW := Lib.hid (new_c A cap img w1 hl hcap hA hr1)
    have HRA := Lib.hid hra
    have HRI := Lib.hid hr
    clear hr1 hr hra hb
    go_wp2_with fail
    refine HNEW.out.mono ?_
    rintro e w2 ⟨p, rfl, hlh⟩
    have HLH := Lib.hid hlh
    clear hlh HNEW
    obtain ⟨s0, hs0⟩ : ∃ s0, s0 = newM img := ⟨_, rfl⟩
    have hls0 : s0.l.length = 0 := by rw [hs0]; rfl
    rw [← hs0] at HLH hb00 hok0
    clear hs0
    have HOK := Lib.hid (runS_ok hok0 hws)
    have HB00 := Lib.hid hb00
    have HLS := Lib.hid hls0
    clear hok0 hb00 hls0
    obtain ⟨g, hg⟩ : ∃ g, p.g = g := ⟨_, rfl⟩
    rw [hg]
    have HG := Lib.hid hg
    clear hg
    go_wp2
    go_loopw [6] (fun i wx => ∃ (k : Nat) (q : Pla), k ≤ l.length ∧ k ≤ 40 ∧ i = .int .i64 (k : Int) ∧ LH w1 (runS s0 l k) q wx ∧ q.g = g) (fun i _ => 40 - (intOf i).toNat)
    case atStart => exact ⟨0, p, by omega, by omega, rfl, by rw [runS_zero]; exact HLH.out, HG.out⟩
    case round =>
      obtain ⟨k, q, hk1, hk2, rfl, hlh, hqg⟩ := hrel
      clear HLH HG
      have HLH := Lib.hid hlh
      have HQG := Lib.hid hqg
      clear hlh hqg
      by_cases hc : k < l.length ∧ k < 40
      · obtain ⟨hc1, hc2⟩ := hc
        have hc1' : (k : Int) < (l.length : Int) := by omega
        have hc2' : (k : Int) < 40 := by omega
        obtain ⟨b, off, hB, hbl, hcell⟩ := ac_cell HRA.out (by omega)
        have hat := hcell k hc1
        have hwk := hws _ (List.getElem_mem hc1)
        have hsu := runS_succ s0 l k hc1
        have hb2 := runS_b0 s0 l k (by omega)
        have hl3 := runS_len s0 l k (by omega)
        obtain ⟨⟨kd, t, ⟨i, a, z, d⟩⟩, hx⟩ : ∃ x, l[k] = x := ⟨_, rfl⟩
        rw [hx] at hat hwk hsu
        obtain ⟨s, hs⟩ : ∃ s, runS s0 l k = s := ⟨_, rfl⟩
        obtain ⟨s', hs'⟩ : ∃ s, runS s0 l (k + 1) = s := ⟨_, rfl⟩
        rw [hs] at HLH hsu hb2 hl3
        rw [hs'] at hsu
        have hn2 : s.b0.length ≤ 1024 := by rw [hb2, HB00.out]; omega
        have hl4 : s.l.length ≤ 1000 := by have := HLS.out; omega
        have hsto := fun (w : World) (h : RamAt s q w) => store_c h hn2 hl4 t i a z d hwk.w.addr.2 hwk.w.data.1 hwk.w.data.2
        rw [HQG.out] at hsto
        have HSTO := Lib.hid hsto
        have hfc : ∀ x, LH w1 s q x → x.cell? ⟨b, off + k * 6 + 1, none⟩ = some (.int .i64 t) ∧ x.cell? ⟨b, off + k * 6 + 2, none⟩ = some (.int .i64 i) ∧ x.cell? ⟨b, off + k * 6 + 3, none⟩ = some (.int .i64 a) ∧ x.cell? ⟨b, off + k * 6 + 4, none⟩ = some (.int .i64 z) ∧ x.cell? ⟨b, off + k * 6 + 5, none⟩ = some (.int .u64 d) := fun x h => by
          have hb := HB1.out.on h.bw
          obtain ⟨_, g1, g2, g3, g4, g5⟩ := hat
          exact ⟨(Below.cell hb hbl).trans g1, (Below.cell hb hbl).trans g2, (Below.cell hb hbl).trans g3, (Below.cell hb hbl).trans g4, (Below.cell hb hbl).trans g5⟩
        have HFC := Lib.hid hfc
        have HSU := Lib.hid hsu
        have HS' := Lib.hid hs'
        subst hB
        clear hcell hsto hx hs hs' hsu hwk hb2 hl3 hn2 hl4 hat hfc hbl
        go_upto_region 9 with (fail)
        have HS := HLH.out.on (Below.drew (Below.refl _ _))
        clear HLH
        refine wp_region_P (S := fun x => LH w1 s q x) (c := 11) (by kernel_rfl) ?_
        change wpAnyP _ _ _ _ _ _ _ _ _ (World.drew _)
        generalize World.drew _ = w4 at *
        refine hp_val (i := 0) (oi := ⟨some 32, .move _, _, _, _, _⟩) [11] (.pointer (some ⟨g, 0, none⟩)) rfl (by kernel_rfl) (by kernel_rfl) (by kernel_rfl) (by kernel_rfl) (by kernel_rfl) rfl (fun _ _ _ h => h) (by kernel_rfl) (fun _ _ => rfl) HS ?_
        simp only [Act.put, List.setIfInBounds_toArray, List.set_cons_zero, List.set_cons_succ]
        refine hp_val (i := 1) (oi := ⟨some 33, .move _, _, _, _, _⟩) [3, 4, 5, 11] (.slice (some ⟨b, off, none⟩) l.length bap) rfl (by kernel_rfl) (by kernel_rfl) (by kernel_rfl) (by kernel_rfl) (by kernel_rfl) rfl (fun _ _ _ h => h) (by kernel_rfl) (fun _ _ => rfl) HS ?_
        simp only [Act.put, List.setIfInBounds_toArray, List.set_cons_zero, List.set_cons_succ]
        refine hp_val (i := 2) (oi := ⟨some 34, .move _, _, _, _, _⟩) [3, 4, 5, 11] (.int .i64 (k : Int)) rfl (by kernel_rfl) (by kernel_rfl) (by kernel_rfl) (by kernel_rfl) (by kernel_rfl) rfl (fun _ _ _ h => h) (by kernel_rfl) (fun _ _ => rfl) HS ?_
        simp only [Act.put, List.setIfInBounds_toArray, List.set_cons_zero, List.set_cons_succ]
        refine hp_val (i := 3) (oi := ⟨some 35, .indexAddr _ _ _, _, _, _, _⟩) [4, 5, 11] (.pointer (some ⟨b, off + k * 6, none⟩)) rfl (by kernel_rfl) (by kernel_rfl) (by kernel_rfl) (by kernel_rfl) (by kernel_rfl) rfl (fun _ _ _ h => h) (by kernel_rfl) (fun _ _ => ex_indexz rfl rfl rfl rfl hc1 Try.underlying23 (by kernel_rfl)) HS ?_
        simp only [Act.put, List.setIfInBounds_toArray, List.set_cons_zero, List.set_cons_succ]
        refine hp_val (i := 4) (oi := ⟨some 36, .fieldAddr _ _ _, _, _, _, _⟩) [5, 11] (.pointer (some ⟨b, off + k * 6 + 1, none⟩)) rfl (by kernel_rfl) (by kernel_rfl) (by kernel_rfl) (by kernel_rfl) (by kernel_rfl) rfl (fun _ _ _ h => h) (by kernel_rfl) (fun _ _ => by kernel_rfl) HS ?_
        simp only [Act.put, List.setIfInBounds_toArray, List.set_cons_zero, List.set_cons_succ]
        refine hp_val (i := 5) (oi := ⟨some 37, .load _ _, _, _, _, _⟩) [11] (.int .i64 t) rfl (by kernel_rfl) (by kernel_rfl) (by kernel_rfl) (by kernel_rfl) (by kernel_rfl) rfl (fun _ _ _ h => h) (by kernel_rfl) (fun x hx => ex_load rfl rfl (HFC.out x hx).1 (by kernel_rfl)) HS ?_
        simp only [Act.put, List.setIfInBounds_toArray, List.set_cons_zero, List.set_cons_succ]
        refine hp_val (i := 6) (oi := ⟨some 38, .move _, _, _, _, _⟩) [8, 9, 10, 11] (.slice (some ⟨b, off, none⟩) l.length bap) rfl (by kernel_rfl) (by kernel_rfl) (by kernel_rfl) (by kernel_rfl) (by kernel_rfl) rfl (fun _ _ _ h => h) (by kernel_rfl) (fun _ _ => rfl) HS ?_
        simp only [Act.put, List.setIfInBounds_toArray, List.set_cons_zero, List.set_cons_succ]
        refine hp_val (i := 7) (oi := ⟨some 39, .move _, _, _, _, _⟩) [8, 9, 10, 11] (.int .i64 (k : Int)) rfl (by kernel_rfl) (by kernel_rfl) (by kernel_rfl) (by kernel_rfl) (by kernel_rfl) rfl (fun _ _ _ h => h) (by kernel_rfl) (fun _ _ => rfl) HS ?_
        simp only [Act.put, List.setIfInBounds_toArray, List.set_cons_zero, List.set_cons_succ]
        refine hp_val (i := 8) (oi := ⟨some 40, .indexAddr _ _ _, _, _, _, _⟩) [9, 10, 11] (.pointer (some ⟨b, off + k * 6, none⟩)) rfl (by kernel_rfl) (by kernel_rfl) (by kernel_rfl) (by kernel_rfl) (by kernel_rfl) rfl (fun _ _ _ h => h) (by kernel_rfl) (fun _ _ => ex_indexz rfl rfl rfl rfl hc1 Try.underlying23 (by kernel_rfl)) HS ?_
        simp only [Act.put, List.setIfInBounds_toArray, List.set_cons_zero, List.set_cons_succ]
        refine hp_val (i := 9) (oi := ⟨some 41, .fieldAddr _ _ _, _, _, _, _⟩) [10, 11] (.pointer (some ⟨b, off + k * 6 + 2, none⟩)) rfl (by kernel_rfl) (by kernel_rfl) (by kernel_rfl) (by kernel_rfl) (by kernel_rfl) rfl (fun _ _ _ h => h) (by kernel_rfl) (fun _ _ => by kernel_rfl) HS ?_
        simp only [Act.put, List.setIfInBounds_toArray, List.set_cons_zero, List.set_cons_succ]
        refine hp_val (i := 10) (oi := ⟨some 42, .load _ _, _, _, _, _⟩) [11] (.agg #[.int .i64 i, .int .i64 a, .int .i64 z, .int .u64 d]) rfl (by kernel_rfl) (by kernel_rfl) (by kernel_rfl) (by kernel_rfl) (by kernel_rfl) rfl (fun _ _ _ h => h) (by kernel_rfl) (fun x hx => ex_load4 rfl rfl (HFC.out x hx).2.1 (HFC.out x hx).2.2.1 (HFC.out x hx).2.2.2.1 (HFC.out x hx).2.2.2.2 Try.underlying31 rfl (by kernel_rfl)) HS ?_
        simp only [Act.put, List.setIfInBounds_toArray, List.set_cons_zero, List.set_cons_succ]
        refine heldP_call (i := 11) (oi := ⟨some 43, .call _, _, _, _, _⟩) (by kernel_rfl) rfl rfl (by first | rfl | kernel_rfl) (HSTO.out _ HS.at') ?_
        rintro e w5 ⟨rfl, q', hr5, hqg5, hf5, hk5⟩
        have HL5 : Hid (LH w1 s' q' w5) := HS.sto (by rw [HSU.out]; exact hr5) hf5 hk5
        have HQ5 : Hid (q'.g = g) := hqg5.trans HQG.out
        clear hr5 hqg5 hf5 hk5 HS HSTO HFC
        refine ⟨_, rfl, .inl (by kernel_rfl), wpAnyP_free _ _ _ _ (by kernel_rfl) ?_⟩
        refine wpAnyH_done (by kernel_rfl) ?_ _
        go_wp2
        go_roundw
        case rel => exact ⟨k + 1, q', by omega, by omega, by go_num, by rw [HS'.out]; exact HL5.out, HQ5.out⟩
        case measure => simp [intOf]; omega
      · have hb2 := (runS_b0 s0 l k (by omega)).trans HB00.out
        have hl3 := runS_len s0 l k (by omega)
        have hok := HOK.out k (by omega)
        obtain ⟨s, hs⟩ : ∃ s, runS s0 l k = s := ⟨_, rfl⟩
        rw [hs] at HLH hb2 hl3 hok
        clear hs
        have hl4 : s.l.length ≤ 1000 := by have := HLS.out; omega
        have hn2 : s.b0.length ≤ 1024 := by rw [hb2]; omega
        have hcb := fun (w : World) (h : RamAt s q w) => bytes_c h hn2
        have hct := fun (w : World) (h : RamAt s q w) => tags_c h hn2
        have hcl := fun (w : World) (h : RamAt s q w) => log_c h hl4
        rw [HQG.out] at hcb hct hcl
        rw [hb2] at hcb hct
        have HCB := Lib.hid hcb
        have HCT := Lib.hid hct
        have HCL := Lib.hid hcl
        have HSO := Lib.hid hok
        have HSB := Lib.hid hb2
        have hL1 : s.l.length ≤ 9223372036854775807 := by omega
        clear hcb hct hcl hok hb2 hl3 hn2 HOK HB00 HLS hl4 HQG
        have hc' : (¬ (k : Int) < (l.length : Int)) ∨ ((k : Int) < (l.length : Int) ∧ ¬ (k : Int) < 40) := by omega
        clear hc
        rcases hc' with d1 | ⟨d1, d2⟩
        all_goals
          go_wp2_with fail
          refine (HCB.out _ HLH.out.at').mono ?_
          rintro e w5 ⟨vB, rfl, hoB, hb5⟩
          obtain ⟨AB, cB, rfl, -⟩ := own_parts hoB
          have HRB := Lib.hid (Rd.of_row hoB)
          have HL5 := Lib.hid (HLH.out.on hb5)
          clear HLH hoB hb5 HCB
          go_wp2_with fail
          refine (HCT.out _ HL5.out.at').mono ?_
          rintro e w6 ⟨vT, rfl, hoT, hb6⟩
          obtain ⟨AT, cT, rfl, -⟩ := own_parts hoT
          have HRT := Lib.hid (Rd.of_row hoT)
          have HL6 := Lib.hid (HL5.out.on hb6)
          have HRB6 := Lib.hid ((HRB.out.below hb6).mono (Below.size hb6))
          clear HL5 HRB hoT hb6 HCT
          go_wp2_with fail
          refine (HCL.out _ HL6.out.at').mono ?_
          rintro e w7 ⟨vL, rfl, hoL, hb7⟩
          obtain ⟨AL, cL, rfl, -⟩ := own_parts hoL
          have HRL := Lib.hid (Rd.of_row hoL)
          have HRB7 := Lib.hid ((HRB6.out.below hb7).mono (Below.size hb7))
          have HRT7 := Lib.hid ((HRT.out.below hb7).mono (Below.size hb7))
          have HB7 := Lib.hid (HB1.out.on (HL6.out.on hb7).bw)
          have HRI7 := Lib.hid ((HRI.out.below HB7.out).mono (Below.size HB7.out))
          clear HL6 HRB6 HRT hoL hb7 HCL
          have HW7 : Hid (BW w7 w7) := Below.refl _ _
          clear d1
          try clear d2
          go_wp2
          go_loopw [10] (fun i wx => ∃ c : Nat, c ≤ img.length ∧ i = .int .i64 (c : Int) ∧ BW w7 wx) (fun i _ => img.length - (intOf i).toNat)
          case atStart => exact ⟨0, by omega, rfl, HW7.out⟩
          case round =>
            obtain ⟨c, hc0, rfl, hbw⟩ := hrel
            have HBW := Lib.hid hbw
            clear hbw HW7
            obtain ⟨wo, rfl⟩ : ∃ wo : World, wo = wr := ⟨_, rfl⟩
            by_cases hcl : c < img.length
            · have hcl' : (c : Int) < (img.length : Int) := by omega
              obtain ⟨bi, oi, hAi, hci⟩ := rd_cell HRI7.out (q := c) (v := .int .u8 (img.getD c 0)) (by unfold cellsB; rw [List.getElem?_map, List.getD_eq_getElem?_getD, List.getElem?_eq_getElem hcl]; rfl)
              have gi := hci wo HBW.out
              subst hAi
              clear hci
              rw [show img.getD c 0 = (lastB img (s.l.take 0) c).1 from rfl] at gi
              go_wp2
              go_loopw [11, 12, 13] (fun x id i wy => ∃ j : Nat, j ≤ s.l.length ∧ x = .int .u8 (lastB img (s.l.take j) c).1 ∧ id = .int .i64 (lastB img (s.l.take j) c).2 ∧ i = .int .i64 (j : Int) ∧ BW w7 wy) (fun _ _ i _ => s.l.length - (intOf i).toNat)
              case atStart => exact ⟨0, by omega, rfl, rfl, rfl, HBW.out⟩
              case round =>
                obtain ⟨j, hj0, rfl, rfl, rfl, hby⟩ := hrel
                have HBY := Lib.hid hby
                clear hby HBW gi
                by_cases hj : j < s.l.length
                · have hj' : (j : Int) < (s.l.length : Int) := by omega
                  obtain ⟨bl, ol, hAL, hbl, hcell⟩ := wr_cell HRL.out (by omega)
                  have hat := hcell j hj
                  have hwk := HSO.out.log _ (List.getElem_mem hj)
                  have htk := lastB_take img s.l j c hj
                  obtain ⟨⟨yi, ya, yz, yd⟩, hx⟩ : ∃ x, s.l[j] = x := ⟨_, rfl⟩
                  rw [hx] at hat hwk htk
                  have hmo := mayP_out hwk.may
                  have hnn : s.n ≤ 1024 := by have := HSO.out.n; unfold Mst.n; omega
                  have hfc : ∀ x, BW w7 x → x.cell? ⟨bl, ol + j * 4, none⟩ = some (.int .i64 yi) ∧ x.cell? ⟨bl, ol + j * 4 + 1, none⟩ = some (.int .i64 ya) ∧ x.cell? ⟨bl, ol + j * 4 + 2, none⟩ = some (.int .i64 yz) ∧ x.cell? ⟨bl, ol + j * 4 + 3, none⟩ = some (.int .u64 yd) := fun x hb =>
                    ⟨(Below.cell hb hbl).trans hat.1, (Below.cell hb hbl).trans hat.2.1, (Below.cell hb hbl).trans hat.2.2.1, (Below.cell hb hbl).trans hat.2.2.2⟩
                  have HFC := Lib.hid hfc
                  have HTK := Lib.hid htk
                  obtain ⟨hm1, hm2, hm3, hm4⟩ := hmo
                  simp only at hm1 hm2 hm4
                  have hhb : ¬ (ya ≤ (c : Int) ∧ (c : Int) < ya + yz) → hasB ⟨yi, ya, yz, yd⟩ c = false := fun h => by
                    unfold hasB
                    simp only
                    by_cases h1 : ya ≤ (c : Int)
                    · rw [decide_eq_true h1, decide_eq_false (fun h2 => h ⟨h1, h2⟩)]; rfl
                    · rw [decide_eq_false h1]; rfl
                  have hyb : ya ≤ (c : Int) → (c : Int) < ya + yz → hasB ⟨yi, ya, yz, yd⟩ c = true := fun h1 h2 => by
                    unfold hasB
                    simp only
                    rw [decide_eq_true h1, decide_eq_true h2]; rfl
                  have HHB := Lib.hid hhb
                  have HYB := Lib.hid hyb
                  subst hAL
                  clear hcell hat hwk htk hx hfc hhb hyb hbl hm3
                  by_cases h1 : ya ≤ (c : Int)
                  · have hd1 : decide (ya ≤ (c : Int)) = true := decide_eq_true h1
                    by_cases h2 : (c : Int) < ya + yz
                    · have hd2 : decide ((c : Int) < ya + yz) = true := decide_eq_true h2
                      go_upto_region 20 with (fail)
                      have HS := BW.on HBY.out (Below.drew (Below.refl _ _))
                      clear HBY
                      refine wp_region_held (S := fun x => BW w7 x) (by kernel_rfl) ?_
                      change wpAnyH _ _ _ _ _ _ _ _ (World.drew _)
                      generalize World.drew _ = w8 at *
                      refine hk_val (i := 0) (oi := ⟨some 78, .move _, _, _, _, _⟩) (.slice (some ⟨bl, ol, none⟩) s.l.length cL) rfl (by kernel_rfl) (by kernel_rfl) (by kernel_rfl) (fun _ _ _ h => h) (by kernel_rfl) (fun _ _ => rfl) HS ?_
                      simp only [Act.put, List.setIfInBounds_toArray, List.set_cons_zero, List.set_cons_succ]
                      refine hk_val (i := 1) (oi := ⟨some 79, .move _, _, _, _, _⟩) (.int .i64 (j : Int)) rfl (by kernel_rfl) (by kernel_rfl) (by kernel_rfl) (fun _ _ _ h => h) (by kernel_rfl) (fun _ _ => rfl) HS ?_
                      simp only [Act.put, List.setIfInBounds_toArray, List.set_cons_zero, List.set_cons_succ]
                      refine hk_val (i := 2) (oi := ⟨some 80, .indexAddr _ _ _, _, _, _, _⟩) (.pointer (some ⟨bl, ol + j * 4, none⟩)) rfl (by kernel_rfl) (by kernel_rfl) (by kernel_rfl) (fun _ _ _ h => h) (by kernel_rfl) (fun _ _ => ex_indexz rfl rfl rfl rfl hj Try.underlying48 (by kernel_rfl)) HS ?_
                      simp only [Act.put, List.setIfInBounds_toArray, List.set_cons_zero, List.set_cons_succ]
                      refine hk_val (i := 3) (oi := ⟨some 81, .fieldAddr _ _ _, _, _, _, _⟩) (.pointer (some ⟨bl, ol + j * 4 + 1, none⟩)) rfl (by kernel_rfl) (by kernel_rfl) (by kernel_rfl) (fun _ _ _ h => h) (by kernel_rfl) (fun _ _ => by kernel_rfl) HS ?_
                      simp only [Act.put, List.setIfInBounds_toArray, List.set_cons_zero, List.set_cons_succ]
                      refine hk_val (i := 4) (oi := ⟨some 82, .load _ _, _, _, _, _⟩) (.int .i64 ya) rfl (by kernel_rfl) (by kernel_rfl) (by kernel_rfl) (fun _ _ _ h => h) (by kernel_rfl) (fun x hx => ex_load rfl rfl (HFC.out x hx).2.1 (by kernel_rfl)) HS ?_
                      simp only [Act.put, List.setIfInBounds_toArray, List.set_cons_zero, List.set_cons_succ]
                      refine hk_val (i := 5) (oi := ⟨some 83, .move _, _, _, _, _⟩) (.int .i64 (c : Int)) rfl (by kernel_rfl) (by kernel_rfl) (by kernel_rfl) (fun _ _ _ h => h) (by kernel_rfl) (fun _ _ => rfl) HS ?_
                      simp only [Act.put, List.setIfInBounds_toArray, List.set_cons_zero, List.set_cons_succ]
                      refine hk_val (i := 6) (oi := ⟨some 84, .binOp _ _ _ _ _, _, _, _, _⟩) (.bool true) rfl (by kernel_rfl) (by kernel_rfl) (by kernel_rfl) (fun _ _ _ h => h) (by kernel_rfl) (fun _ _ => ex_leI rfl rfl rfl hd1) HS ?_
                      simp only [Act.put, List.setIfInBounds_toArray, List.set_cons_zero, List.set_cons_succ]
                      refine hk_val (i := 7) (oi := ⟨some 85, .move _, _, _, _, _⟩) (.bool true) rfl (by kernel_rfl) (by kernel_rfl) (by kernel_rfl) (fun _ _ _ h => h) (by kernel_rfl) (fun _ _ => rfl) HS ?_
                      simp only [Act.put, List.setIfInBounds_toArray, List.set_cons_zero, List.set_cons_succ]
                      refine hk_val (i := 8) (oi := ⟨some 86, .move _, _, _, _, _⟩) (.int .i64 (c : Int)) rfl (by kernel_rfl) (by kernel_rfl) (by kernel_rfl) (fun _ _ _ h => h) (by kernel_rfl) (fun _ _ => rfl) HS ?_
                      simp only [Act.put, List.setIfInBounds_toArray, List.set_cons_zero, List.set_cons_succ]
                      refine hk_val (i := 9) (oi := ⟨some 87, .move _, _, _, _, _⟩) (.slice (some ⟨bl, ol, none⟩) s.l.length cL) rfl (by kernel_rfl) (by kernel_rfl) (by kernel_rfl) (fun _ _ _ h => h) (by kernel_rfl) (fun _ _ => rfl) HS ?_
                      simp only [Act.put, List.setIfInBounds_toArray, List.set_cons_zero, List.set_cons_succ]
                      refine hk_val (i := 10) (oi := ⟨some 88, .move _, _, _, _, _⟩) (.int .i64 (j : Int)) rfl (by kernel_rfl) (by kernel_rfl) (by kernel_rfl) (fun _ _ _ h => h) (by kernel_rfl) (fun _ _ => rfl) HS ?_
                      simp only [Act.put, List.setIfInBounds_toArray, List.set_cons_zero, List.set_cons_succ]
                      refine hk_val (i := 11) (oi := ⟨some 89, .indexAddr _ _ _, _, _, _, _⟩) (.pointer (some ⟨bl, ol + j * 4, none⟩)) rfl (by kernel_rfl) (by kernel_rfl) (by kernel_rfl) (fun _ _ _ h => h) (by kernel_rfl) (fun _ _ => ex_indexz rfl rfl rfl rfl hj Try.underlying48 (by kernel_rfl)) HS ?_
                      simp only [Act.put, List.setIfInBounds_toArray, List.set_cons_zero, List.set_cons_succ]
                      refine hk_val (i := 12) (oi := ⟨some 90, .fieldAddr _ _ _, _, _, _, _⟩) (.pointer (some ⟨bl, ol + j * 4 + 1, none⟩)) rfl (by kernel_rfl) (by kernel_rfl) (by kernel_rfl) (fun _ _ _ h => h) (by kernel_rfl) (fun _ _ => by kernel_rfl) HS ?_
                      simp only [Act.put, List.setIfInBounds_toArray, List.set_cons_zero, List.set_cons_succ]
                      refine hk_val (i := 13) (oi := ⟨some 91, .load _ _, _, _, _, _⟩) (.int .i64 ya) rfl (by kernel_rfl) (by kernel_rfl) (by kernel_rfl) (fun _ _ _ h => h) (by kernel_rfl) (fun x hx => ex_load rfl rfl (HFC.out x hx).2.1 (by kernel_rfl)) HS ?_
                      simp only [Act.put, List.setIfInBounds_toArray, List.set_cons_zero, List.set_cons_succ]
                      refine hk_val (i := 14) (oi := ⟨some 92, .move _, _, _, _, _⟩) (.slice (some ⟨bl, ol, none⟩) s.l.length cL) rfl (by kernel_rfl) (by kernel_rfl) (by kernel_rfl) (fun _ _ _ h => h) (by kernel_rfl) (fun _ _ => rfl) HS ?_
                      simp only [Act.put, List.setIfInBounds_toArray, List.set_cons_zero, List.set_cons_succ]
                      refine hk_val (i := 15) (oi := ⟨some 93, .move _, _, _, _, _⟩) (.int .i64 (j : Int)) rfl (by kernel_rfl) (by kernel_rfl) (by kernel_rfl) (fun _ _ _ h => h) (by kernel_rfl) (fun _ _ => rfl) HS ?_
                      simp only [Act.put, List.setIfInBounds_toArray, List.set_cons_zero, List.set_cons_succ]
                      refine hk_val (i := 16) (oi := ⟨some 94, .indexAddr _ _ _, _, _, _, _⟩) (.pointer (some ⟨bl, ol + j * 4, none⟩)) rfl (by kernel_rfl) (by kernel_rfl) (by kernel_rfl) (fun _ _ _ h => h) (by kernel_rfl) (fun _ _ => ex_indexz rfl rfl rfl rfl hj Try.underlying48 (by kernel_rfl)) HS ?_
                      simp only [Act.put, List.setIfInBounds_toArray, List.set_cons_zero, List.set_cons_succ]
                      refine hk_val (i := 17) (oi := ⟨some 95, .fieldAddr _ _ _, _, _, _, _⟩) (.pointer (some ⟨bl, ol + j * 4 + 2, none⟩)) rfl (by kernel_rfl) (by kernel_rfl) (by kernel_rfl) (fun _ _ _ h => h) (by kernel_rfl) (fun _ _ => by kernel_rfl) HS ?_
                      simp only [Act.put, List.setIfInBounds_toArray, List.set_cons_zero, List.set_cons_succ]
                      refine hk_val (i := 18) (oi := ⟨some 96, .load _ _, _, _, _, _⟩) (.int .i64 yz) rfl (by kernel_rfl) (by kernel_rfl) (by kernel_rfl) (fun _ _ _ h => h) (by kernel_rfl) (fun x hx => ex_load rfl rfl (HFC.out x hx).2.2.1 (by kernel_rfl)) HS ?_
                      simp only [Act.put, List.setIfInBounds_toArray, List.set_cons_zero, List.set_cons_succ]
                      refine hk_val (i := 19) (oi := ⟨some 97, .binOp _ _ _ _ _, _, _, _, _⟩) (.int .i64 (ya + yz)) rfl (by kernel_rfl) (by kernel_rfl) (by kernel_rfl) (fun _ _ _ h => h) (by kernel_rfl) (fun _ _ => ex_addI rfl rfl rfl (by omega)) HS ?_
                      simp only [Act.put, List.setIfInBounds_toArray, List.set_cons_zero, List.set_cons_succ]
                      refine hk_val (i := 20) (oi := ⟨some 98, .binOp _ _ _ _ _, _, _, _, _⟩) (.bool true) rfl (by kernel_rfl) (by kernel_rfl) (by kernel_rfl) (fun _ _ _ h => h) (by kernel_rfl) (fun _ _ => ex_ltI rfl rfl rfl hd2) HS ?_
                      simp only [Act.put, List.setIfInBounds_toArray, List.set_cons_zero, List.set_cons_succ]
                      refine hk_val (i := 21) (oi := ⟨some 99, .pick _ _ _, _, _, _, _⟩) (.bool true) rfl (by kernel_rfl) (by kernel_rfl) (by kernel_rfl) (fun _ _ _ h => h) (by kernel_rfl) (fun _ _ => rfl) HS ?_
                      simp only [Act.put, List.setIfInBounds_toArray, List.set_cons_zero, List.set_cons_succ]
                      refine wpAnyH_done (by kernel_rfl) ?_ _
                      have HBY := Lib.hid HS
                      clear HS hd1 hd2
                      go_upto_region 21 with (fail)
                      have HS := BW.on HBY.out (Below.drew (Below.refl _ _))
                      clear HBY
                      refine wp_region_held (S := fun x => BW w7 x) (by kernel_rfl) ?_
                      change wpAnyH _ _ _ _ _ _ _ _ (World.drew _)
                      generalize World.drew _ = w8 at *
                      refine hk_val (i := 0) (oi := ⟨some 100, .move _, _, _, _, _⟩) (.slice (some ⟨bl, ol, none⟩) s.l.length cL) rfl (by kernel_rfl) (by kernel_rfl) (by kernel_rfl) (fun _ _ _ h => h) (by kernel_rfl) (fun _ _ => rfl) HS ?_
                      simp only [Act.put, List.setIfInBounds_toArray, List.set_cons_zero, List.set_cons_succ]
                      refine hk_val (i := 1) (oi := ⟨some 101, .move _, _, _, _, _⟩) (.int .i64 (j : Int)) rfl (by kernel_rfl) (by kernel_rfl) (by kernel_rfl) (fun _ _ _ h => h) (by kernel_rfl) (fun _ _ => rfl) HS ?_
                      simp only [Act.put, List.setIfInBounds_toArray, List.set_cons_zero, List.set_cons_succ]
                      refine hk_val (i := 2) (oi := ⟨some 102, .indexAddr _ _ _, _, _, _, _⟩) (.pointer (some ⟨bl, ol + j * 4, none⟩)) rfl (by kernel_rfl) (by kernel_rfl) (by kernel_rfl) (fun _ _ _ h => h) (by kernel_rfl) (fun _ _ => ex_indexz rfl rfl rfl rfl hj Try.underlying48 (by kernel_rfl)) HS ?_
                      simp only [Act.put, List.setIfInBounds_toArray, List.set_cons_zero, List.set_cons_succ]
                      refine hk_val (i := 3) (oi := ⟨some 103, .fieldAddr _ _ _, _, _, _, _⟩) (.pointer (some ⟨bl, ol + j * 4 + 3, none⟩)) rfl (by kernel_rfl) (by kernel_rfl) (by kernel_rfl) (fun _ _ _ h => h) (by kernel_rfl) (fun _ _ => by kernel_rfl) HS ?_
                      simp only [Act.put, List.setIfInBounds_toArray, List.set_cons_zero, List.set_cons_succ]
                      refine hk_val (i := 4) (oi := ⟨some 104, .load _ _, _, _, _, _⟩) (.int .u64 yd) rfl (by kernel_rfl) (by kernel_rfl) (by kernel_rfl) (fun _ _ _ h => h) (by kernel_rfl) (fun x hx => ex_load rfl rfl (HFC.out x hx).2.2.2 (by kernel_rfl)) HS ?_
                      simp only [Act.put, List.setIfInBounds_toArray, List.set_cons_zero, List.set_cons_succ]
                      refine hk_val (i := 5) (oi := ⟨some 105, .move _, _, _, _, _⟩) (.int .i64 (c : Int)) rfl (by kernel_rfl) (by kernel_rfl) (by kernel_rfl) (fun _ _ _ h => h) (by kernel_rfl) (fun _ _ => rfl) HS ?_
                      simp only [Act.put, List.setIfInBounds_toArray, List.set_cons_zero, List.set_cons_succ]
                      refine hk_val (i := 6) (oi := ⟨some 106, .move _, _, _, _, _⟩) (.slice (some ⟨bl, ol, none⟩) s.l.length cL) rfl (by kernel_rfl) (by kernel_rfl) (by kernel_rfl) (fun _ _ _ h => h) (by kernel_rfl) (fun _ _ => rfl) HS ?_
                      simp only [Act.put, List.setIfInBounds_toArray, List.set_cons_zero, List.set_cons_succ]
                      refine hk_val (i := 7) (oi := ⟨some 107, .move _, _, _, _, _⟩) (.int .i64 (j : Int)) rfl (by kernel_rfl) (by kernel_rfl) (by kernel_rfl) (fun _ _ _ h => h) (by kernel_rfl) (fun _ _ => rfl) HS ?_
                      simp only [Act.put, List.setIfInBounds_toArray, List.set_cons_zero, List.set_cons_succ]
                      refine hk_val (i := 8) (oi := ⟨some 108, .indexAddr _ _ _, _, _, _, _⟩) (.pointer (some ⟨bl, ol + j * 4, none⟩)) rfl (by kernel_rfl) (by kernel_rfl) (by kernel_rfl) (fun _ _ _ h => h) (by kernel_rfl) (fun _ _ => ex_indexz rfl rfl rfl rfl hj Try.underlying48 (by kernel_rfl)) HS ?_
                      simp only [Act.put, List.setIfInBounds_toArray, List.set_cons_zero, List.set_cons_succ]
                      refine hk_val (i := 9) (oi := ⟨some 109, .fieldAddr _ _ _, _, _, _, _⟩) (.pointer (some ⟨bl, ol + j * 4 + 1, none⟩)) rfl (by kernel_rfl) (by kernel_rfl) (by kernel_rfl) (fun _ _ _ h => h) (by kernel_rfl) (fun _ _ => by kernel_rfl) HS ?_
                      simp only [Act.put, List.setIfInBounds_toArray, List.set_cons_zero, List.set_cons_succ]
                      refine hk_val (i := 10) (oi := ⟨some 110, .load _ _, _, _, _, _⟩) (.int .i64 ya) rfl (by kernel_rfl) (by kernel_rfl) (by kernel_rfl) (fun _ _ _ h => h) (by kernel_rfl) (fun x hx => ex_load rfl rfl (HFC.out x hx).2.1 (by kernel_rfl)) HS ?_
                      simp only [Act.put, List.setIfInBounds_toArray, List.set_cons_zero, List.set_cons_succ]
                      refine hk_val (i := 11) (oi := ⟨some 111, .binOp _ _ _ _ _, _, _, _, _⟩) (.int .i64 ((c : Int) - ya)) rfl (by kernel_rfl) (by kernel_rfl) (by kernel_rfl) (fun _ _ _ h => h) (by kernel_rfl) (fun _ _ => ex_subI rfl rfl rfl (by omega)) HS ?_
                      simp only [Act.put, List.setIfInBounds_toArray, List.set_cons_zero, List.set_cons_succ]
                      refine hk_val (i := 12) (oi := ⟨some 112, .binOp _ _ _ _ _, _, _, _, _⟩) (.int .i64 (8 * ((c : Int) - ya))) rfl (by kernel_rfl) (by kernel_rfl) (by kernel_rfl) (fun _ _ _ h => h) (by kernel_rfl) (fun _ _ => ex_mulI rfl rfl rfl (by omega)) HS ?_
                      simp only [Act.put, List.setIfInBounds_toArray, List.set_cons_zero, List.set_cons_succ]
                      refine hk_val (i := 13) (oi := ⟨some 113, .convert _ _ _, _, _, _, _⟩) (.int .u64 (8 * ((c : Int) - ya))) rfl (by kernel_rfl) (by kernel_rfl) (by kernel_rfl) (fun _ _ _ h => h) (by kernel_rfl) (fun _ _ => ex_uint rfl rfl (by omega) (by omega) Try.underlying3 Try.underlying51) HS ?_
                      simp only [Act.put, List.setIfInBounds_toArray, List.set_cons_zero, List.set_cons_succ]
                      refine hk_val (i := 14) (oi := ⟨some 114, .binOp _ _ _ _ _, _, _, _, _⟩) (.int .u64 (yd / 2 ^ (8 * ((c : Int) - ya)).toNat)) rfl (by kernel_rfl) (by kernel_rfl) (by kernel_rfl) (fun _ _ _ h => h) (by kernel_rfl) (fun _ _ => ex_shr rfl rfl rfl (by omega) (by omega)) HS ?_
                      simp only [Act.put, List.setIfInBounds_toArray, List.set_cons_zero, List.set_cons_succ]
                      refine hk_val (i := 15) (oi := ⟨some 115, .convert _ _ _, _, _, _, _⟩) (.int .u8 (yd / 2 ^ (8 * ((c : Int) - ya)).toNat % 256)) rfl (by kernel_rfl) (by kernel_rfl) (by kernel_rfl) (fun _ _ _ h => h) (by kernel_rfl) (fun _ _ => ex_byte rfl rfl Try.underlying29 Try.underlying5) HS ?_
                      simp only [Act.put, List.setIfInBounds_toArray, List.set_cons_zero, List.set_cons_succ]
                      refine hk_val (i := 16) (oi := ⟨some 11, .assign _, _, _, _, _⟩) (.int .u8 (yd / 2 ^ (8 * ((c : Int) - ya)).toNat % 256)) rfl (by kernel_rfl) (by kernel_rfl) (by kernel_rfl) (fun _ _ _ h => h) (by kernel_rfl) (fun _ _ => rfl) HS ?_
                      simp only [Act.put, List.setIfInBounds_toArray, List.set_cons_zero, List.set_cons_succ]
                      refine wpAnyH_done (by kernel_rfl) ?_ _
                      have gy := (HFC.out w8 HS).1
                      rw [show yd / 2 ^ (8 * ((c : Int) - ya)).toNat % 256 = byteAt yd ((c : Int) - ya).toNat by rw [show (8 * ((c : Int) - ya)).toNat = 8 * ((c : Int) - ya).toNat by omega]; exact byte_shift _ _]
                      go_wp2
                      go_roundw
                      case rel => exact ⟨j + 1, by omega, by rw [HTK.out, stepB_yes (HYB.out h1 h2)], by rw [HTK.out, stepB_yes (HYB.out h1 h2)], by go_num, HS⟩
                      case measure => simp [intOf]; omega
                    · have hd2 : decide ((c : Int) < ya + yz) = false := decide_eq_false h2
                      have hno : ¬ (ya ≤ (c : Int) ∧ (c : Int) < ya + yz) := fun h => h2 h.2
                      go_upto_region 20 with (fail)
                      have HS := BW.on HBY.out (Below.drew (Below.refl _ _))
                      clear HBY
                      refine wp_region_held (S := fun x => BW w7 x) (by kernel_rfl) ?_
                      change wpAnyH _ _ _ _ _ _ _ _ (World.drew _)
                      generalize World.drew _ = w8 at *
                      refine hk_val (i := 0) (oi := ⟨some 78, .move _, _, _, _, _⟩) (.slice (some ⟨bl, ol, none⟩) s.l.length cL) rfl (by kernel_rfl) (by kernel_rfl) (by kernel_rfl) (fun _ _ _ h => h) (by kernel_rfl) (fun _ _ => rfl) HS ?_
                      simp only [Act.put, List.setIfInBounds_toArray, List.set_cons_zero, List.set_cons_succ]
                      refine hk_val (i := 1) (oi := ⟨some 79, .move _, _, _, _, _⟩) (.int .i64 (j : Int)) rfl (by kernel_rfl) (by kernel_rfl) (by kernel_rfl) (fun _ _ _ h => h) (by kernel_rfl) (fun _ _ => rfl) HS ?_
                      simp only [Act.put, List.setIfInBounds_toArray, List.set_cons_zero, List.set_cons_succ]
                      refine hk_val (i := 2) (oi := ⟨some 80, .indexAddr _ _ _, _, _, _, _⟩) (.pointer (some ⟨bl, ol + j * 4, none⟩)) rfl (by kernel_rfl) (by kernel_rfl) (by kernel_rfl) (fun _ _ _ h => h) (by kernel_rfl) (fun _ _ => ex_indexz rfl rfl rfl rfl hj Try.underlying48 (by kernel_rfl)) HS ?_
                      simp only [Act.put, List.setIfInBounds_toArray, List.set_cons_zero, List.set_cons_succ]
                      refine hk_val (i := 3) (oi := ⟨some 81, .fieldAddr _ _ _, _, _, _, _⟩) (.pointer (some ⟨bl, ol + j * 4 + 1, none⟩)) rfl (by kernel_rfl) (by kernel_rfl) (by kernel_rfl) (fun _ _ _ h => h) (by kernel_rfl) (fun _ _ => by kernel_rfl) HS ?_
                      simp only [Act.put, List.setIfInBounds_toArray, List.set_cons_zero, List.set_cons_succ]
                      refine hk_val (i := 4) (oi := ⟨some 82, .load _ _, _, _, _, _⟩) (.int .i64 ya) rfl (by kernel_rfl) (by kernel_rfl) (by kernel_rfl) (fun _ _ _ h => h) (by kernel_rfl) (fun x hx => ex_load rfl rfl (HFC.out x hx).2.1 (by kernel_rfl)) HS ?_
                      simp only [Act.put, List.setIfInBounds_toArray, List.set_cons_zero, List.set_cons_succ]
                      refine hk_val (i := 5) (oi := ⟨some 83, .move _, _, _, _, _⟩) (.int .i64 (c : Int)) rfl (by kernel_rfl) (by kernel_rfl) (by kernel_rfl) (fun _ _ _ h => h) (by kernel_rfl) (fun _ _ => rfl) HS ?_
                      simp only [Act.put, List.setIfInBounds_toArray, List.set_cons_zero, List.set_cons_succ]
                      refine hk_val (i := 6) (oi := ⟨some 84, .binOp _ _ _ _ _, _, _, _, _⟩) (.bool true) rfl (by kernel_rfl) (by kernel_rfl) (by kernel_rfl) (fun _ _ _ h => h) (by kernel_rfl) (fun _ _ => ex_leI rfl rfl rfl hd1) HS ?_
                      simp only [Act.put, List.setIfInBounds_toArray, List.set_cons_zero, List.set_cons_succ]
                      refine hk_val (i := 7) (oi := ⟨some 85, .move _, _, _, _, _⟩) (.bool true) rfl (by kernel_rfl) (by kernel_rfl) (by kernel_rfl) (fun _ _ _ h => h) (by kernel_rfl) (fun _ _ => rfl) HS ?_
                      simp only [Act.put, List.setIfInBounds_toArray, List.set_cons_zero, List.set_cons_succ]
                      refine hk_val (i := 8) (oi := ⟨some 86, .move _, _, _, _, _⟩) (.int .i64 (c : Int)) rfl (by kernel_rfl) (by kernel_rfl) (by kernel_rfl) (fun _ _ _ h => h) (by kernel_rfl) (fun _ _ => rfl) HS ?_
                      simp only [Act.put, List.setIfInBounds_toArray, List.set_cons_zero, List.set_cons_succ]
                      refine hk_val (i := 9) (oi := ⟨some 87, .move _, _, _, _, _⟩) (.slice (some ⟨bl, ol, none⟩) s.l.length cL) rfl (by kernel_rfl) (by kernel_rfl) (by kernel_rfl) (fun _ _ _ h => h) (by kernel_rfl) (fun _ _ => rfl) HS ?_
                      simp only [Act.put, List.setIfInBounds_toArray, List.set_cons_zero, List.set_cons_succ]
                      refine hk_val (i := 10) (oi := ⟨some 88, .move _, _, _, _, _⟩) (.int .i64 (j : Int)) rfl (by kernel_rfl) (by kernel_rfl) (by kernel_rfl) (fun _ _ _ h => h) (by kernel_rfl) (fun _ _ => rfl) HS ?_
                      simp only [Act.put, List.setIfInBounds_toArray, List.set_cons_zero, List.set_cons_succ]
                      refine hk_val (i := 11) (oi := ⟨some 89, .indexAddr _ _ _, _, _, _, _⟩) (.pointer (some ⟨bl, ol + j * 4, none⟩)) rfl (by kernel_rfl) (by kernel_rfl) (by kernel_rfl) (fun _ _ _ h => h) (by kernel_rfl) (fun _ _ => ex_indexz rfl rfl rfl rfl hj Try.underlying48 (by kernel_rfl)) HS ?_
                      simp only [Act.put, List.setIfInBounds_toArray, List.set_cons_zero, List.set_cons_succ]
                      refine hk_val (i := 12) (oi := ⟨some 90, .fieldAddr _ _ _, _, _, _, _⟩) (.pointer (some ⟨bl, ol + j * 4 + 1, none⟩)) rfl (by kernel_rfl) (by kernel_rfl) (by kernel_rfl) (fun _ _ _ h => h) (by kernel_rfl) (fun _ _ => by kernel_rfl) HS ?_
                      simp only [Act.put, List.setIfInBounds_toArray, List.set_cons_zero, List.set_cons_succ]
                      refine hk_val (i := 13) (oi := ⟨some 91, .load _ _, _, _, _, _⟩) (.int .i64 ya) rfl (by kernel_rfl) (by kernel_rfl) (by kernel_rfl) (fun _ _ _ h => h) (by kernel_rfl) (fun x hx => ex_load rfl rfl (HFC.out x hx).2.1 (by kernel_rfl)) HS ?_
                      simp only [Act.put, List.setIfInBounds_toArray, List.set_cons_zero, List.set_cons_succ]
                      refine hk_val (i := 14) (oi := ⟨some 92, .move _, _, _, _, _⟩) (.slice (some ⟨bl, ol, none⟩) s.l.length cL) rfl (by kernel_rfl) (by kernel_rfl) (by kernel_rfl) (fun _ _ _ h => h) (by kernel_rfl) (fun _ _ => rfl) HS ?_
                      simp only [Act.put, List.setIfInBounds_toArray, List.set_cons_zero, List.set_cons_succ]
                      refine hk_val (i := 15) (oi := ⟨some 93, .move _, _, _, _, _⟩) (.int .i64 (j : Int)) rfl (by kernel_rfl) (by kernel_rfl) (by kernel_rfl) (fun _ _ _ h => h) (by kernel_rfl) (fun _ _ => rfl) HS ?_
                      simp only [Act.put, List.setIfInBounds_toArray, List.set_cons_zero, List.set_cons_succ]
                      refine hk_val (i := 16) (oi := ⟨some 94, .indexAddr _ _ _, _, _, _, _⟩) (.pointer (some ⟨bl, ol + j * 4, none⟩)) rfl (by kernel_rfl) (by kernel_rfl) (by kernel_rfl) (fun _ _ _ h => h) (by kernel_rfl) (fun _ _ => ex_indexz rfl rfl rfl rfl hj Try.underlying48 (by kernel_rfl)) HS ?_
                      simp only [Act.put, List.setIfInBounds_toArray, List.set_cons_zero, List.set_cons_succ]
                      refine hk_val (i := 17) (oi := ⟨some 95, .fieldAddr _ _ _, _, _, _, _⟩) (.pointer (some ⟨bl, ol + j * 4 + 2, none⟩)) rfl (by kernel_rfl) (by kernel_rfl) (by kernel_rfl) (fun _ _ _ h => h) (by kernel_rfl) (fun _ _ => by kernel_rfl) HS ?_
                      simp only [Act.put, List.setIfInBounds_toArray, List.set_cons_zero, List.set_cons_succ]
                      refine hk_val (i := 18) (oi := ⟨some 96, .load _ _, _, _, _, _⟩) (.int .i64 yz) rfl (by kernel_rfl) (by kernel_rfl) (by kernel_rfl) (fun _ _ _ h => h) (by kernel_rfl) (fun x hx => ex_load rfl rfl (HFC.out x hx).2.2.1 (by kernel_rfl)) HS ?_
                      simp only [Act.put, List.setIfInBounds_toArray, List.set_cons_zero, List.set_cons_succ]
                      refine hk_val (i := 19) (oi := ⟨some 97, .binOp _ _ _ _ _, _, _, _, _⟩) (.int .i64 (ya + yz)) rfl (by kernel_rfl) (by kernel_rfl) (by kernel_rfl) (fun _ _ _ h => h) (by kernel_rfl) (fun _ _ => ex_addI rfl rfl rfl (by omega)) HS ?_
                      simp only [Act.put, List.setIfInBounds_toArray, List.set_cons_zero, List.set_cons_succ]
                      refine hk_val (i := 20) (oi := ⟨some 98, .binOp _ _ _ _ _, _, _, _, _⟩) (.bool false) rfl (by kernel_rfl) (by kernel_rfl) (by kernel_rfl) (fun _ _ _ h => h) (by kernel_rfl) (fun _ _ => ex_ltI rfl rfl rfl hd2) HS ?_
                      simp only [Act.put, List.setIfInBounds_toArray, List.set_cons_zero, List.set_cons_succ]
                      refine hk_val (i := 21) (oi := ⟨some 99, .pick _ _ _, _, _, _, _⟩) (.bool false) rfl (by kernel_rfl) (by kernel_rfl) (by kernel_rfl) (fun _ _ _ h => h) (by kernel_rfl) (fun _ _ => rfl) HS ?_
                      simp only [Act.put, List.setIfInBounds_toArray, List.set_cons_zero, List.set_cons_succ]
                      refine wpAnyH_done (by kernel_rfl) ?_ _
                      go_wp2
                      go_roundw
                      case rel => exact ⟨j + 1, by omega, by rw [HTK.out, stepB_no (HHB.out hno)], by rw [HTK.out, stepB_no (HHB.out hno)], by go_num, HS⟩
                      case measure => simp [intOf]; omega
                  · have hd1 : decide (ya ≤ (c : Int)) = false := decide_eq_false h1
                    have hno : ¬ (ya ≤ (c : Int) ∧ (c : Int) < ya + yz) := fun h => h1 h.1
                    go_upto_region 20 with (fail)
                    have HS := BW.on HBY.out (Below.drew (Below.refl _ _))
                    clear HBY
                    refine wp_region_held (S := fun x => BW w7 x) (by kernel_rfl) ?_
                    change wpAnyH _ _ _ _ _ _ _ _ (World.drew _)
                    generalize World.drew _ = w8 at *
                    refine hk_val (i := 0) (oi := ⟨some 78, .move _, _, _, _, _⟩) (.slice (some ⟨bl, ol, none⟩) s.l.length cL) rfl (by kernel_rfl) (by kernel_rfl) (by kernel_rfl) (fun _ _ _ h => h) (by kernel_rfl) (fun _ _ => rfl) HS ?_
                    simp only [Act.put, List.setIfInBounds_toArray, List.set_cons_zero, List.set_cons_succ]
                    refine hk_val (i := 1) (oi := ⟨some 79, .move _, _, _, _, _⟩) (.int .i64 (j : Int)) rfl (by kernel_rfl) (by kernel_rfl) (by kernel_rfl) (fun _ _ _ h => h) (by kernel_rfl) (fun _ _ => rfl) HS ?_
                    simp only [Act.put, List.setIfInBounds_toArray, List.set_cons_zero, List.set_cons_succ]
                    refine hk_val (i := 2) (oi := ⟨some 80, .indexAddr _ _ _, _, _, _, _⟩) (.pointer (some ⟨bl, ol + j * 4, none⟩)) rfl (by kernel_rfl) (by kernel_rfl) (by kernel_rfl) (fun _ _ _ h => h) (by kernel_rfl) (fun _ _ => ex_indexz rfl rfl rfl rfl hj Try.underlying48 (by kernel_rfl)) HS ?_
                    simp only [Act.put, List.setIfInBounds_toArray, List.set_cons_zero, List.set_cons_succ]
                    refine hk_val (i := 3) (oi := ⟨some 81, .fieldAddr _ _ _, _, _, _, _⟩) (.pointer (some ⟨bl, ol + j * 4 + 1, none⟩)) rfl (by kernel_rfl) (by kernel_rfl) (by kernel_rfl) (fun _ _ _ h => h) (by kernel_rfl) (fun _ _ => by kernel_rfl) HS ?_
                    simp only [Act.put, List.setIfInBounds_toArray, List.set_cons_zero, List.set_cons_succ]
                    refine hk_val (i := 4) (oi := ⟨some 82, .load _ _, _, _, _, _⟩) (.int .i64 ya) rfl (by kernel_rfl) (by kernel_rfl) (by kernel_rfl) (fun _ _ _ h => h) (by kernel_rfl) (fun x hx => ex_load rfl rfl (HFC.out x hx).2.1 (by kernel_rfl)) HS ?_
                    simp only [Act.put, List.setIfInBounds_toArray, List.set_cons_zero, List.set_cons_succ]
                    refine hk_val (i := 5) (oi := ⟨some 83, .move _, _, _, _, _⟩) (.int .i64 (c : Int)) rfl (by kernel_rfl) (by kernel_rfl) (by kernel_rfl) (fun _ _ _ h => h) (by kernel_rfl) (fun _ _ => rfl) HS ?_
                    simp only [Act.put, List.setIfInBounds_toArray, List.set_cons_zero, List.set_cons_succ]
                    refine hk_val (i := 6) (oi := ⟨some 84, .binOp _ _ _ _ _, _, _, _, _⟩) (.bool false) rfl (by kernel_rfl) (by kernel_rfl) (by kernel_rfl) (fun _ _ _ h => h) (by kernel_rfl) (fun _ _ => ex_leI rfl rfl rfl hd1) HS ?_
                    simp only [Act.put, List.setIfInBounds_toArray, List.set_cons_zero, List.set_cons_succ]
                    refine hk_val (i := 7) (oi := ⟨some 85, .move _, _, _, _, _⟩) (.bool false) rfl (by kernel_rfl) (by kernel_rfl) (by kernel_rfl) (fun _ _ _ h => h) (by kernel_rfl) (fun _ _ => rfl) HS ?_
                    simp only [Act.put, List.setIfInBounds_toArray, List.set_cons_zero, List.set_cons_succ]
                    refine hk_skip (i := 8) (oi := ⟨some 86, .move _, _, _, _, _⟩) rfl (by kernel_rfl) (by kernel_rfl) (by kernel_rfl) (fun _ _ _ h => h) (by kernel_rfl) HS ?_
                    simp only [Act.put, List.setIfInBounds_toArray, List.set_cons_zero, List.set_cons_succ]
                    refine hk_skip (i := 9) (oi := ⟨some 87, .move _, _, _, _, _⟩) rfl (by kernel_rfl) (by kernel_rfl) (by kernel_rfl) (fun _ _ _ h => h) (by kernel_rfl) HS ?_
                    simp only [Act.put, List.setIfInBounds_toArray, List.set_cons_zero, List.set_cons_succ]
                    refine hk_skip (i := 10) (oi := ⟨some 88, .move _, _, _, _, _⟩) rfl (by kernel_rfl) (by kernel_rfl) (by kernel_rfl) (fun _ _ _ h => h) (by kernel_rfl) HS ?_
                    simp only [Act.put, List.setIfInBounds_toArray, List.set_cons_zero, List.set_cons_succ]
                    refine hk_skip (i := 11) (oi := ⟨some 89, .indexAddr _ _ _, _, _, _, _⟩) rfl (by kernel_rfl) (by kernel_rfl) (by kernel_rfl) (fun _ _ _ h => h) (by kernel_rfl) HS ?_
                    simp only [Act.put, List.setIfInBounds_toArray, List.set_cons_zero, List.set_cons_succ]
                    refine hk_skip (i := 12) (oi := ⟨some 90, .fieldAddr _ _ _, _, _, _, _⟩) rfl (by kernel_rfl) (by kernel_rfl) (by kernel_rfl) (fun _ _ _ h => h) (by kernel_rfl) HS ?_
                    simp only [Act.put, List.setIfInBounds_toArray, List.set_cons_zero, List.set_cons_succ]
                    refine hk_skip (i := 13) (oi := ⟨some 91, .load _ _, _, _, _, _⟩) rfl (by kernel_rfl) (by kernel_rfl) (by kernel_rfl) (fun _ _ _ h => h) (by kernel_rfl) HS ?_
                    simp only [Act.put, List.setIfInBounds_toArray, List.set_cons_zero, List.set_cons_succ]
                    refine hk_skip (i := 14) (oi := ⟨some 92, .move _, _, _, _, _⟩) rfl (by kernel_rfl) (by kernel_rfl) (by kernel_rfl) (fun _ _ _ h => h) (by kernel_rfl) HS ?_
                    simp only [Act.put, List.setIfInBounds_toArray, List.set_cons_zero, List.set_cons_succ]
                    refine hk_skip (i := 15) (oi := ⟨some 93, .move _, _, _, _, _⟩) rfl (by kernel_rfl) (by kernel_rfl) (by kernel_rfl) (fun _ _ _ h => h) (by kernel_rfl) HS ?_
                    simp only [Act.put, List.setIfInBounds_toArray, List.set_cons_zero, List.set_cons_succ]
                    refine hk_skip (i := 16) (oi := ⟨some 94, .indexAddr _ _ _, _, _, _, _⟩) rfl (by kernel_rfl) (by kernel_rfl) (by kernel_rfl) (fun _ _ _ h => h) (by kernel_rfl) HS ?_
                    simp only [Act.put, List.setIfInBounds_toArray, List.set_cons_zero, List.set_cons_succ]
                    refine hk_skip (i := 17) (oi := ⟨some 95, .fieldAddr _ _ _, _, _, _, _⟩) rfl (by kernel_rfl) (by kernel_rfl) (by kernel_rfl) (fun _ _ _ h => h) (by kernel_rfl) HS ?_
                    simp only [Act.put, List.setIfInBounds_toArray, List.set_cons_zero, List.set_cons_succ]
                    refine hk_skip (i := 18) (oi := ⟨some 96, .load _ _, _, _, _, _⟩) rfl (by kernel_rfl) (by kernel_rfl) (by kernel_rfl) (fun _ _ _ h => h) (by kernel_rfl) HS ?_
                    simp only [Act.put, List.setIfInBounds_toArray, List.set_cons_zero, List.set_cons_succ]
                    refine hk_skip (i := 19) (oi := ⟨some 97, .binOp _ _ _ _ _, _, _, _, _⟩) rfl (by kernel_rfl) (by kernel_rfl) (by kernel_rfl) (fun _ _ _ h => h) (by kernel_rfl) HS ?_
                    simp only [Act.put, List.setIfInBounds_toArray, List.set_cons_zero, List.set_cons_succ]
                    refine hk_skip (i := 20) (oi := ⟨some 98, .binOp _ _ _ _ _, _, _, _, _⟩) rfl (by kernel_rfl) (by kernel_rfl) (by kernel_rfl) (fun _ _ _ h => h) (by kernel_rfl) HS ?_
                    simp only [Act.put, List.setIfInBounds_toArray, List.set_cons_zero, List.set_cons_succ]
                    refine hk_val (i := 21) (oi := ⟨some 99, .pick _ _ _, _, _, _, _⟩) (.bool false) rfl (by kernel_rfl) (by kernel_rfl) (by kernel_rfl) (fun _ _ _ h => h) (by kernel_rfl) (fun _ _ => rfl) HS ?_
                    simp only [Act.put, List.setIfInBounds_toArray, List.set_cons_zero, List.set_cons_succ]
                    refine wpAnyH_done (by kernel_rfl) ?_ _
                    go_wp2
                    go_roundw
                    case rel => exact ⟨j + 1, by omega, by rw [HTK.out, stepB_no (HHB.out hno)], by rw [HTK.out, stepB_no (HHB.out hno)], by go_num, HS⟩
                    case measure => simp [intOf]; omega
                · obtain rfl : j = s.l.length := by omega
                  have hj' : ¬ ((s.l.length : Int) < (s.l.length : Int)) := by omega
                  obtain ⟨bb, ob, hAB, hcb⟩ := rd_cell HRB7.out (q := c) (bytesM_at img s.l c hcl)
                  obtain ⟨bt, ot, hAT, hct⟩ := rd_cell HRT7.out (q := c) (tagsM_at img s.l c hcl)
                  have gb := hcb wr HBY.out
                  have gt := hct wr HBY.out
                  subst hAB hAT
                  rw [List.take_length]
                  clear hcb hct
                  generalize lastB img s.l c = pr at *
                  obtain ⟨p1, p2⟩ := pr
                  simp only at gb gt ⊢
                  have e1 : (p1 != p1) = false := by simp
                  have e2 : (p2 != p2) = false := by simp
                  go_wp2
                  go_roundw
                  case rel => exact ⟨c + 1, by omega, by go_num, HBY.out⟩
                  case measure => simp [intOf]; omega
            · have hcl' : ¬ (c : Int) < (img.length : Int) := by omega
              go_wp2_with fail
              refine (HAL.out _).mono ?_
              rintro e w9 ⟨rfl, hb9⟩
              go_wp2
              go_ret
              exact ⟨rfl, (HB7.out.on HBW.out).on hb9⟩
theorem ramLast_law (A : Option Addr) (cap : Nat) (l0 : List Int) (B : Option Addr) (bap : Nat) (l1 : List Ac) (W : World) (hl : l0.length ≤ cap) (hcap : cap ≤ 9223372036854775807) (hA : A = none → cap = 0 ∧ l0 = []) (hw : ∀ z ∈ l0, (Lit.int .u8 z).wf = true) (hr : Rd W W.heap.size A (l0.map (Value.int .u8)))
    (hm : l1.length ≤ bap) (hbap : bap ≤ 9223372036854775807) (_ : B = none → bap = 0 ∧ l1 = []) (hws : Wacs l1) (hra : Rd W W.heap.size B (cellsA l1)) :
    Calls Try.prog 5 #[.slice A l0.length cap, .slice B l1.length bap] W fun e w' => e = .returned (.bool true) ∧ Below W.heap.size W w' :=
  last_walk A cap l0 B bap l1 W hl hcap hA (byts_wf hw) hr hm hbap hws hra
end Go.Proofs.Yteoemjhhjnkkiaa
