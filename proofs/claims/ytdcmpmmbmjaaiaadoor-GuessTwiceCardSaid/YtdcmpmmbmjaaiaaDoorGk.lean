/- GuessTwice: a branch that went one way twice is thought to go it again. -/
import Derived.Test.YtdcmpmmbmjaaiaaDoorGj
import Derived.Deep.Cut
set_option maxRecDepth 100000
set_option linter.unusedVariables false
namespace Go.Proofs.YtdcmpmmbmjaaiaaDoor
open Go.RowKit

theorem cnt_twice {c : Int} (h : 0 ≤ c ∧ c ≤ 3) : 2 ≤ cntK true (cntK true c) ∧ cntK false (cntK false c) ≤ 1 := by
  have : c = 0 ∨ c = 1 ∨ c = 2 ∨ c = 3 := by omega
  rcases this with rfl | rfl | rfl | rfl <;> decide
def bi (imm : Int) : Ins := ⟨6, 0, 0, 0, imm, false, false, 0, 0⟩
theorem i64_6 : I64 6 := by unfold I64; decide
/-- Behind a branch that went one way twice. -/
theorem twice {s : Gst} (ok : GOk s) (imm pc next : Int) (h4 : imm ≠ 4) (hn : next = onG pc ∨ next = asdG (bi imm) pc) :
    nxtG (trG (trG s ⟨bi imm, pc, next⟩) ⟨bi imm, pc, next⟩) (bi imm) pc = next ∧ ∀ q, q ≠ numG pc → (trG (trG s ⟨bi imm, pc, next⟩) ⟨bi imm, pc, next⟩).c q = s.c q := by
  have e : ∀ s : Gst, trG s ⟨bi imm, pc, next⟩ = countG s pc (decide (next = asdG (bi imm) pc)) := fun s => by
    unfold trG
    rw [if_neg (by show ¬ (6 : Int) = 4; decide), if_pos ⟨by show srt 6 = 3; decide, h4⟩]
  have hc := ok.c (numG pc)
  rw [e, e]
  generalize hd : decide (next = asdG (bi imm) pc) = d
  refine ⟨?_, fun q hq => ?_⟩
  · have hs : (countG (countG s pc d) pc d).c (numG pc) = cntK d (cntK d (s.c (numG pc))) := by
      unfold countG
      simp only [updK_same]
    unfold nxtG
    rw [if_neg (by show ¬ (6 : Int) = 4; decide), hs]
    have k := cnt_twice hc
    cases d with
    | true => rw [if_pos (.inr ⟨by show srt 6 = 3; decide, k.1⟩)]; exact (of_decide_eq_true hd).symm
    | false =>
      rw [if_neg (fun h => h.elim (fun a => absurd a (by show ¬ (6 : Int) = 3; decide)) (fun a => by omega))]
      rcases hn with h | h
      · exact h.symm
      · exact absurd h (of_decide_eq_false hd)
  · unfold countG
    simp only [updK_other _ _ _ hq]
theorem nine {w : World} {b o : Nat} {v0 v1 v2 v3 v4 v5 v6 v7 v8 v9 v10 : Value} (h : ∀ j v, #[v0, v1, v2, v3, v4, v5, v6, v7, v8, v9, v10].toList[j]? = some v → w.cell? ⟨b, o + j, none⟩ = some v) : ∀ j v, [v0, v1, v2, v3, v4, v5, v6, v7, v8][j]? = some v → w.cell? ⟨b, o + j, none⟩ = some v := by
  intro j v hv
  refine h j v ?_
  have : j < 9 := (List.getElem?_eq_some_iff.1 hv).1
  show ([v0, v1, v2, v3, v4, v5, v6, v7, v8] ++ [v9, v10])[j]? = some v
  rw [List.getElem?_append_left (by simpa using this)]
  exact hv
set_option maxHeartbeats 8000000 in
theorem twice_walk (A : Option Addr) (cap : Nat) (l : List Wn) (imm pc other : Int) (taken : Bool) (W : World) (hl : l.length ≤ 9223372036854775807) (hw : Wwns l) (hp : 0 ≤ pc ∧ pc ≤ 18446744073709551615) (ho : 0 ≤ other ∧ other ≤ 18446744073709551615) (hr : Rd W W.heap.size A (cellsWn l)) (hT : TabL W) :
    Calls Tryd.prog 4 #[.slice A l.length cap, .int .i64 imm, .int .u64 pc, .int .u64 other, .bool taken] W fun e w' => e = .returned (.bool true) ∧ BW W w' := by
  have HAL := Lib.hid (fun x (hx : BW W x) => alive14_any x (hT.below hx))
  have HNW := Lib.hid new_c
  have HTR := Lib.hid (fun s (ok : GOk s) g (y : World) (hy : GX W s g y) (x : Wn) (hx : Wwn x) => train_c hy.at0 ok x hx.op hx.pc.1 hx.pc.2 (hy.tab hT))
  have HCO := Lib.hid (fun s g (y : World) (hy : GX W s g y) => counter_c hy.at0 other ho.1 ho.2)
  have HNX := Lib.hid (fun s g (y : World) (hy : GX W s g y) imm => next_c hy.at0 (bi imm) i64_6 pc hp.1 hp.2 (hy.tab hT))
  have HW := Lib.hid hw
  have HR := Lib.hid hr
  have HP := Lib.hid hp
  obtain ⟨p0, p1⟩ := hp
  obtain ⟨o0, o1⟩ := ho
  clear hw hr hT
  have HAF : True := trivial
  go_enter Tryd.func4, Tryd.ntmps4
  go_upto_region 4 with (first
    | (go_at_call 5; refine (HAL.out _ (Below.refl _ _)).mono ?_; rintro e w1 ⟨rfl, hb⟩; have HB1 := Lib.hid hb; clear hb)
    | (go_at_call 6; refine (HNW.out _).mono ?_; rintro e w2 ⟨g, rfl, hg, hgl, hb⟩; have HX2 : Hid (GX W newG g w2) := ⟨hg, BW.on HB1.out hb, Nat.le_trans (Below.size HB1.out) hgl⟩; clear hg hb hgl))
  go_wp2
  go_loopw [12] (fun i wx => ∃ k : Nat, k ≤ l.length ∧ k ≤ 60 ∧ i = .int .i64 (k : Int) ∧ Hid (GX W (allG (l.take k)) g wx)) (fun i _ => 60 - (intOf i).toNat)
  case atStart => exact ⟨0, by omega, by omega, rfl, HX2.out⟩
  case round =>
    obtain ⟨k, hk, hk6, rfl, HX⟩ := hrel
    clear HX2
    by_cases hc : k < l.length ∧ k < 60
    · obtain ⟨hlt, hlt6⟩ := hc
      have hltI : (k : Int) < (l.length : Int) := by omega
      have hlt6I : (k : Int) < 60 := by omega
      have HX3 : Hid (∀ y, GAt (trG (allG (l.take k)) l[k]) g y → Fr [g] wr y → GX W (allG (l.take (k + 1))) g y) := fun y hy hf => by rw [allG_next l hlt]; exact HX.out.put hf hy
      have HT := Lib.hid (fun y hy => HTR.out (allG (l.take k)) (allG_ok _) g y hy l[k] (HW.out _ (List.getElem_mem hlt)))
      obtain ⟨b, off, rfl, hb, hcs⟩ := rd_wn HR.out hlt
      have HCS := Lib.hid (fun x (hx : BW W x) j v hv => (Below.cell hx (p := ⟨b, off + k * 11 + j, none⟩) hb).trans (hcs j v hv))
      clear hcs
      obtain ⟨s2, hs2⟩ : ∃ s2, allG (l.take (k + 1)) = s2 := ⟨_, rfl⟩
      rw [hs2] at HX3
      have HE2 := Lib.hid hs2
      clear hs2
      generalize allG (l.take k) = s at *
      generalize l[k] = x at *
      obtain ⟨⟨op, rd, rs1, rs2, im, aq, rl, pred, succ⟩, xp, nx⟩ := x
      unfold wnCells at HCS
      unfold insV at HT
      simp only at HCS HT
      go_wp2_with (fail)
      refine wp_region_P (S := GX W s g) (c := 16) (by kernel_rfl) ?_
      change wpAnyP _ _ _ _ _ _ _ _ _ (World.drew _)
      have HS := HX.out.on (Below.drew (Below.refl _ _))
      have HFR : Fr [g] wr (World.drew wr) := (Fr.refl _ _).drew
      clear HX
      have HX4 : Hid (∀ y, GAt (trG s ⟨⟨op, rd, rs1, rs2, im, aq, rl, pred, succ⟩, xp, nx⟩) g y → Fr [g] (World.drew wr) y → GX W s2 g y) := fun y hy hf => HX3.out y hy (HFR.trans hf (fun i hi => .inl hi))
      clear HX3 HFR
      generalize World.drew _ = w3 at *
      refine hp_val (i := 0) (oi := ⟨some 29, .move _, _, _, _, _⟩) [16] (.pointer (some ⟨g, 0, none⟩)) rfl (by kernel_rfl) (by kernel_rfl) (by kernel_rfl) (by kernel_rfl) (by kernel_rfl) rfl (fun _ _ _ h => h) (by kernel_rfl) (fun _ _ => rfl) HS ?_
      simp only [Act.put, List.setIfInBounds_toArray, List.set_cons_zero, List.set_cons_succ]
      refine hp_val (i := 1) (oi := ⟨some 30, .move _, _, _, _, _⟩) [3, 4, 5, 16] (.slice (some ⟨b, off, none⟩) l.length cap) rfl (by kernel_rfl) (by kernel_rfl) (by kernel_rfl) (by kernel_rfl) (by kernel_rfl) rfl (fun _ _ _ h => h) (by kernel_rfl) (fun _ _ => rfl) HS ?_
      simp only [Act.put, List.setIfInBounds_toArray, List.set_cons_zero, List.set_cons_succ]
      refine hp_val (i := 2) (oi := ⟨some 31, .move _, _, _, _, _⟩) [3, 4, 5, 16] (.int .i64 (k : Int)) rfl (by kernel_rfl) (by kernel_rfl) (by kernel_rfl) (by kernel_rfl) (by kernel_rfl) rfl (fun _ _ _ h => h) (by kernel_rfl) (fun _ _ => rfl) HS ?_
      simp only [Act.put, List.setIfInBounds_toArray, List.set_cons_zero, List.set_cons_succ]
      refine hp_val (i := 3) (oi := ⟨some 32, .indexAddr _ _ _, _, _, _, _⟩) [4, 5, 16] (.pointer (some ⟨b, off + k * 11, none⟩)) rfl (by kernel_rfl) (by kernel_rfl) (by kernel_rfl) (by kernel_rfl) (by kernel_rfl) rfl (fun _ _ _ h => h) (by kernel_rfl) (fun _ _ => Hz.ex_indexz rfl rfl rfl rfl hlt Tryd.underlying22 (by kernel_rfl)) HS ?_
      simp only [Act.put, List.setIfInBounds_toArray, List.set_cons_zero, List.set_cons_succ]
      refine hp_val (i := 4) (oi := ⟨some 33, .fieldAddr _ _ _, _, _, _, _⟩) [5, 16] (.pointer (some ⟨b, off + k * 11, none⟩)) rfl (by kernel_rfl) (by kernel_rfl) (by kernel_rfl) (by kernel_rfl) (by kernel_rfl) rfl (fun _ _ _ h => h) (by kernel_rfl) (fun _ _ => by kernel_rfl) HS ?_
      simp only [Act.put, List.setIfInBounds_toArray, List.set_cons_zero, List.set_cons_succ]
      refine hp_val (i := 5) (oi := ⟨some 34, .load _ _, _, _, _, _⟩) [16] (.agg #[.int .i64 op, .int .i64 rd, .int .i64 rs1, .int .i64 rs2, .int .i64 im, .bool aq, .bool rl, .int .i64 pred, .int .i64 succ]) rfl (by kernel_rfl) (by kernel_rfl) (by kernel_rfl) (by kernel_rfl) (by kernel_rfl) rfl (fun _ _ _ h => h) (by kernel_rfl) (fun x hx => Hz.ex_load_cells [.int .i64 op, .int .i64 rd, .int .i64 rs1, .int .i64 rs2, .int .i64 im, .bool aq, .bool rl, .int .i64 pred, .int .i64 succ] rfl rfl (nine (HCS.out x hx.low)) Tryd.underlying24 rfl (by kernel_rfl)) HS ?_
      simp only [Act.put, List.setIfInBounds_toArray, List.set_cons_zero, List.set_cons_succ]
      refine hp_val (i := 6) (oi := ⟨some 35, .move _, _, _, _, _⟩) [8, 9, 10, 16] (.slice (some ⟨b, off, none⟩) l.length cap) rfl (by kernel_rfl) (by kernel_rfl) (by kernel_rfl) (by kernel_rfl) (by kernel_rfl) rfl (fun _ _ _ h => h) (by kernel_rfl) (fun _ _ => rfl) HS ?_
      simp only [Act.put, List.setIfInBounds_toArray, List.set_cons_zero, List.set_cons_succ]
      refine hp_val (i := 7) (oi := ⟨some 36, .move _, _, _, _, _⟩) [8, 9, 10, 16] (.int .i64 (k : Int)) rfl (by kernel_rfl) (by kernel_rfl) (by kernel_rfl) (by kernel_rfl) (by kernel_rfl) rfl (fun _ _ _ h => h) (by kernel_rfl) (fun _ _ => rfl) HS ?_
      simp only [Act.put, List.setIfInBounds_toArray, List.set_cons_zero, List.set_cons_succ]
      refine hp_val (i := 8) (oi := ⟨some 37, .indexAddr _ _ _, _, _, _, _⟩) [9, 10, 16] (.pointer (some ⟨b, off + k * 11, none⟩)) rfl (by kernel_rfl) (by kernel_rfl) (by kernel_rfl) (by kernel_rfl) (by kernel_rfl) rfl (fun _ _ _ h => h) (by kernel_rfl) (fun _ _ => Hz.ex_indexz rfl rfl rfl rfl hlt Tryd.underlying22 (by kernel_rfl)) HS ?_
      simp only [Act.put, List.setIfInBounds_toArray, List.set_cons_zero, List.set_cons_succ]
      refine hp_val (i := 9) (oi := ⟨some 38, .fieldAddr _ _ _, _, _, _, _⟩) [10, 16] (.pointer (some ⟨b, off + k * 11 + 9, none⟩)) rfl (by kernel_rfl) (by kernel_rfl) (by kernel_rfl) (by kernel_rfl) (by kernel_rfl) rfl (fun _ _ _ h => h) (by kernel_rfl) (fun _ _ => by kernel_rfl) HS ?_
      simp only [Act.put, List.setIfInBounds_toArray, List.set_cons_zero, List.set_cons_succ]
      refine hp_val (i := 10) (oi := ⟨some 39, .load _ _, _, _, _, _⟩) [16] (.int .u64 xp) rfl (by kernel_rfl) (by kernel_rfl) (by kernel_rfl) (by kernel_rfl) (by kernel_rfl) rfl (fun _ _ _ h => h) (by kernel_rfl) (fun x hx => ex_load rfl rfl (HCS.out x hx.low 9 _ rfl) (by kernel_rfl)) HS ?_
      simp only [Act.put, List.setIfInBounds_toArray, List.set_cons_zero, List.set_cons_succ]
      refine hp_val (i := 11) (oi := ⟨some 40, .move _, _, _, _, _⟩) [13, 14, 15, 16] (.slice (some ⟨b, off, none⟩) l.length cap) rfl (by kernel_rfl) (by kernel_rfl) (by kernel_rfl) (by kernel_rfl) (by kernel_rfl) rfl (fun _ _ _ h => h) (by kernel_rfl) (fun _ _ => rfl) HS ?_
      simp only [Act.put, List.setIfInBounds_toArray, List.set_cons_zero, List.set_cons_succ]
      refine hp_val (i := 12) (oi := ⟨some 41, .move _, _, _, _, _⟩) [13, 14, 15, 16] (.int .i64 (k : Int)) rfl (by kernel_rfl) (by kernel_rfl) (by kernel_rfl) (by kernel_rfl) (by kernel_rfl) rfl (fun _ _ _ h => h) (by kernel_rfl) (fun _ _ => rfl) HS ?_
      simp only [Act.put, List.setIfInBounds_toArray, List.set_cons_zero, List.set_cons_succ]
      refine hp_val (i := 13) (oi := ⟨some 42, .indexAddr _ _ _, _, _, _, _⟩) [14, 15, 16] (.pointer (some ⟨b, off + k * 11, none⟩)) rfl (by kernel_rfl) (by kernel_rfl) (by kernel_rfl) (by kernel_rfl) (by kernel_rfl) rfl (fun _ _ _ h => h) (by kernel_rfl) (fun _ _ => Hz.ex_indexz rfl rfl rfl rfl hlt Tryd.underlying22 (by kernel_rfl)) HS ?_
      simp only [Act.put, List.setIfInBounds_toArray, List.set_cons_zero, List.set_cons_succ]
      refine hp_val (i := 14) (oi := ⟨some 43, .fieldAddr _ _ _, _, _, _, _⟩) [15, 16] (.pointer (some ⟨b, off + k * 11 + 10, none⟩)) rfl (by kernel_rfl) (by kernel_rfl) (by kernel_rfl) (by kernel_rfl) (by kernel_rfl) rfl (fun _ _ _ h => h) (by kernel_rfl) (fun _ _ => by kernel_rfl) HS ?_
      simp only [Act.put, List.setIfInBounds_toArray, List.set_cons_zero, List.set_cons_succ]
      refine hp_val (i := 15) (oi := ⟨some 44, .load _ _, _, _, _, _⟩) [16] (.int .u64 nx) rfl (by kernel_rfl) (by kernel_rfl) (by kernel_rfl) (by kernel_rfl) (by kernel_rfl) rfl (fun _ _ _ h => h) (by kernel_rfl) (fun x hx => ex_load rfl rfl (HCS.out x hx.low 10 _ rfl) (by kernel_rfl)) HS ?_
      simp only [Act.put, List.setIfInBounds_toArray, List.set_cons_zero, List.set_cons_succ]
      refine hp_last (i := 16) (oi := ⟨some 45, .call _, _, _, _, _⟩) (by kernel_rfl) rfl (by kernel_rfl) (by kernel_rfl) ?_
      refine Hz.wp_call (by first | rfl | kernel_rfl) (HT.out _ HS) ?_
      rintro e w4 ⟨rfl, hg, hf⟩
      have HX5 := Lib.hid (HX4.out _ hg hf)
      clear hg hf HX4
      refine ⟨_, rfl, ?_⟩
      simp only [Act.put, List.setIfInBounds_toArray, List.set_cons_zero, List.set_cons_succ]
      refine wpAnyH_done (by kernel_rfl) ?_ _
      go_wp2
      go_roundw
      case rel => exact ⟨k + 1, by omega, by omega, by first | rfl | go_num, by rw [HE2.out]; exact HX5⟩
      case measure => simp [intOf]; omega
    · have HOK := Lib.hid (allG_ok (l.take k))
      have hno : ¬ ((k : Int) < (l.length : Int)) ∨ ¬ ((k : Int) < 60) := by omega
      generalize allG (l.take k) = s at *
      have HAG : True := trivial
      clear HR HW
      rcases hno with hno | hno
      · clear hc
        by_cases h4 : imm = 4
        · subst h4
          cases taken with
          | true =>
            have HXA := Lib.hid (HX.out.on (BW.new (Below.refl _ _) (.cells #[.int .i64 6, .int .i64 0, .int .i64 0, .int .i64 0, .int .i64 8, .bool false, .bool false, .int .i64 0, .int .i64 0] 24)))
            have HKA := Lib.hid (Blk.new #[.int .i64 6, .int .i64 0, .int .i64 0, .int .i64 0, .int .i64 8, .bool false, .bool false, .int .i64 0, .int .i64 0] 24 wr)
            have HLT : g < wr.heap.size := Blk.lt HX.out.at0
            have HTW := Lib.hid (twice (HOK.out) 8 pc (IntKind.u64.wrap (pc + IntKind.u64.wrap 8)) (by decide) (.inr rfl))
            have HK1 := Lib.hid (fun s ok y hy => HTR.out s ok g y hy ⟨bi 8, pc, (IntKind.u64.wrap (pc + IntKind.u64.wrap 8))⟩ ⟨i64_6, HP.out⟩)
            have HOK1 := Lib.hid (HOK.out.tr ⟨bi 8, pc, (IntKind.u64.wrap (pc + IntKind.u64.wrap 8))⟩)
            have HKN := Lib.hid (fun s y hy => HNX.out s g y hy 8)
            generalize hs1 : trG s ⟨bi 8, pc, (IntKind.u64.wrap (pc + IntKind.u64.wrap 8))⟩ = s1 at *
            generalize hs2 : trG s1 ⟨bi 8, pc, (IntKind.u64.wrap (pc + IntKind.u64.wrap 8))⟩ = s2 at *
            have HS1 := Lib.hid hs1
            have HS2 := Lib.hid hs2
            clear hs1 hs2
            have HNV : Hid (nxtG s2 (bi 8) pc = (IntKind.u64.wrap (pc + IntKind.u64.wrap 8))) := HTW.out.1
            have HQ : Hid (other / 4 % 16 ≠ pc / 4 % 16 → s2.c (numG other) = s.c (numG other)) := fun h => HTW.out.2 _ (fun e => h ((num_iff _ _).1 e))
            clear HTW
            have HNX2 := Lib.hid (fun y hy => HNV.out ▸ HKN.out s2 y hy)
            unfold bi insV at HNX2 HK1
            simp only at HNX2 HK1
            by_cases hq : other / 4 % 16 = pc / 4 % 16
            · clear HQ
              go_wp2_with (first
                | (go_at_call 10; (have HFIRST := HAF); clear HAF; refine (HCO.out _ _ _ HXA.out).mono ?_; rintro e w5 ⟨rfl, n5, rfl⟩; have HXB := Lib.hid (HXA.out.drewN n5); have HKB := Lib.hid (HKA.out.on (below_drewN' (Below.refl _ _) n5)))
                | (go_at_call 9; (have HSECOND := HAG); clear HAG; refine (HK1.out _ HOK.out _ HXB.out).mono ?_; rintro e w6 ⟨rfl, hg, hf⟩; have HXC := Lib.hid (HXB.out.put hf (HS1.out ▸ hg)); have HKC := Lib.hid (hf.blk HKB.out (by simp; omega)); clear hg hf)
                | (go_at_call 9; refine (HK1.out _ HOK1.out _ HXC.out).mono ?_; rintro e w7 ⟨rfl, hg, hf⟩; have HXD := Lib.hid (HXC.out.put hf (HS2.out ▸ hg)); have HKD := Lib.hid (hf.blk HKC.out (by simp; omega)); clear hg hf)
                | (go_at_call 5; refine (HAL.out _ HXD.out.low).mono ?_; rintro e w8 ⟨rfl, hb⟩; have HXE := Lib.hid (HXD.out.on hb); have HKE := Lib.hid (HKD.out.on hb); clear hb)
                | (go_at_call 7; refine (HNX2.out _ HXE.out).mono ?_; rintro e w9 ⟨rfl, hb⟩; have HXF := Lib.hid (HXE.out.on hb); clear hb)
                | (go_at_call 10; refine (HCO.out _ _ _ HXF.out).mono ?_; rintro e w10 ⟨rfl, n10, rfl⟩; have HXG := Lib.hid (HXF.out.drewN n10))
                | (with_reducible refine Hz.val_arm (o := ⟨some 61, .load _ (.tmp 13), _, _, _, _⟩) (by kernel_rfl) (Hz.ex_load_all 24 (.tmp 13) rfl rfl HKB.out Tryd.underlying24 rfl (by kernel_rfl)) ?_)
                | (with_reducible refine Hz.val_arm (o := ⟨some 66, .load _ (.tmp 13), _, _, _, _⟩) (by kernel_rfl) (Hz.ex_load_all 24 (.tmp 13) rfl rfl HKC.out Tryd.underlying24 rfl (by kernel_rfl)) ?_)
                | (with_reducible refine Hz.val_arm (o := ⟨some 73, .load _ (.tmp 13), _, _, _, _⟩) (by kernel_rfl) (Hz.ex_load_all 24 (.tmp 13) rfl rfl HKE.out Tryd.underlying24 rfl (by kernel_rfl)) ?_))
              go_ret
              exact ⟨rfl, HXF.out.low⟩
            · have e5 : (other / 4 % 16 == pc / 4 % 16) = false := by simpa using hq
              have HQ2 := Lib.hid (HQ.out hq)
              clear HQ
              have HCO2 := Lib.hid (fun y hy => HQ2.out ▸ HCO.out s2 g y hy)
              go_wp2_with (first
                | (go_at_call 10; (have HFIRST := HAF); clear HAF; refine (HCO.out _ _ _ HXA.out).mono ?_; rintro e w5 ⟨rfl, n5, rfl⟩; have HXB := Lib.hid (HXA.out.drewN n5); have HKB := Lib.hid (HKA.out.on (below_drewN' (Below.refl _ _) n5)))
                | (go_at_call 9; (have HSECOND := HAG); clear HAG; refine (HK1.out _ HOK.out _ HXB.out).mono ?_; rintro e w6 ⟨rfl, hg, hf⟩; have HXC := Lib.hid (HXB.out.put hf (HS1.out ▸ hg)); have HKC := Lib.hid (hf.blk HKB.out (by simp; omega)); clear hg hf)
                | (go_at_call 9; refine (HK1.out _ HOK1.out _ HXC.out).mono ?_; rintro e w7 ⟨rfl, hg, hf⟩; have HXD := Lib.hid (HXC.out.put hf (HS2.out ▸ hg)); have HKD := Lib.hid (hf.blk HKC.out (by simp; omega)); clear hg hf)
                | (go_at_call 5; refine (HAL.out _ HXD.out.low).mono ?_; rintro e w8 ⟨rfl, hb⟩; have HXE := Lib.hid (HXD.out.on hb); have HKE := Lib.hid (HKD.out.on hb); clear hb)
                | (go_at_call 7; refine (HNX2.out _ HXE.out).mono ?_; rintro e w9 ⟨rfl, hb⟩; have HXF := Lib.hid (HXE.out.on hb); clear hb)
                | (go_at_call 10; refine (HCO2.out _ HXF.out).mono ?_; rintro e w10 ⟨rfl, n10, rfl⟩; have HXG := Lib.hid (HXF.out.drewN n10))
                | (with_reducible refine Hz.val_arm (o := ⟨some 61, .load _ (.tmp 13), _, _, _, _⟩) (by kernel_rfl) (Hz.ex_load_all 24 (.tmp 13) rfl rfl HKB.out Tryd.underlying24 rfl (by kernel_rfl)) ?_)
                | (with_reducible refine Hz.val_arm (o := ⟨some 66, .load _ (.tmp 13), _, _, _, _⟩) (by kernel_rfl) (Hz.ex_load_all 24 (.tmp 13) rfl rfl HKC.out Tryd.underlying24 rfl (by kernel_rfl)) ?_)
                | (with_reducible refine Hz.val_arm (o := ⟨some 73, .load _ (.tmp 13), _, _, _, _⟩) (by kernel_rfl) (Hz.ex_load_all 24 (.tmp 13) rfl rfl HKE.out Tryd.underlying24 rfl (by kernel_rfl)) ?_))
              go_ret
              exact ⟨rfl, HXG.out.low⟩
          | false =>
            have HXA := Lib.hid (HX.out.on (BW.new (Below.refl _ _) (.cells #[.int .i64 6, .int .i64 0, .int .i64 0, .int .i64 0, .int .i64 8, .bool false, .bool false, .int .i64 0, .int .i64 0] 24)))
            have HKA := Lib.hid (Blk.new #[.int .i64 6, .int .i64 0, .int .i64 0, .int .i64 0, .int .i64 8, .bool false, .bool false, .int .i64 0, .int .i64 0] 24 wr)
            have HLT : g < wr.heap.size := Blk.lt HX.out.at0
            have HTW := Lib.hid (twice (HOK.out) 8 pc (IntKind.u64.wrap (pc + 4)) (by decide) (.inl rfl))
            have HK1 := Lib.hid (fun s ok y hy => HTR.out s ok g y hy ⟨bi 8, pc, (IntKind.u64.wrap (pc + 4))⟩ ⟨i64_6, HP.out⟩)
            have HOK1 := Lib.hid (HOK.out.tr ⟨bi 8, pc, (IntKind.u64.wrap (pc + 4))⟩)
            have HKN := Lib.hid (fun s y hy => HNX.out s g y hy 8)
            generalize hs1 : trG s ⟨bi 8, pc, (IntKind.u64.wrap (pc + 4))⟩ = s1 at *
            generalize hs2 : trG s1 ⟨bi 8, pc, (IntKind.u64.wrap (pc + 4))⟩ = s2 at *
            have HS1 := Lib.hid hs1
            have HS2 := Lib.hid hs2
            clear hs1 hs2
            have HNV : Hid (nxtG s2 (bi 8) pc = (IntKind.u64.wrap (pc + 4))) := HTW.out.1
            have HQ : Hid (other / 4 % 16 ≠ pc / 4 % 16 → s2.c (numG other) = s.c (numG other)) := fun h => HTW.out.2 _ (fun e => h ((num_iff _ _).1 e))
            clear HTW
            have HNX2 := Lib.hid (fun y hy => HNV.out ▸ HKN.out s2 y hy)
            unfold bi insV at HNX2 HK1
            simp only at HNX2 HK1
            by_cases hq : other / 4 % 16 = pc / 4 % 16
            · clear HQ
              go_wp2_with (first
                | (go_at_call 10; (have HFIRST := HAF); clear HAF; refine (HCO.out _ _ _ HXA.out).mono ?_; rintro e w5 ⟨rfl, n5, rfl⟩; have HXB := Lib.hid (HXA.out.drewN n5); have HKB := Lib.hid (HKA.out.on (below_drewN' (Below.refl _ _) n5)))
                | (go_at_call 9; (have HSECOND := HAG); clear HAG; refine (HK1.out _ HOK.out _ HXB.out).mono ?_; rintro e w6 ⟨rfl, hg, hf⟩; have HXC := Lib.hid (HXB.out.put hf (HS1.out ▸ hg)); have HKC := Lib.hid (hf.blk HKB.out (by simp; omega)); clear hg hf)
                | (go_at_call 9; refine (HK1.out _ HOK1.out _ HXC.out).mono ?_; rintro e w7 ⟨rfl, hg, hf⟩; have HXD := Lib.hid (HXC.out.put hf (HS2.out ▸ hg)); have HKD := Lib.hid (hf.blk HKC.out (by simp; omega)); clear hg hf)
                | (go_at_call 5; refine (HAL.out _ HXD.out.low).mono ?_; rintro e w8 ⟨rfl, hb⟩; have HXE := Lib.hid (HXD.out.on hb); have HKE := Lib.hid (HKD.out.on hb); clear hb)
                | (go_at_call 7; refine (HNX2.out _ HXE.out).mono ?_; rintro e w9 ⟨rfl, hb⟩; have HXF := Lib.hid (HXE.out.on hb); clear hb)
                | (go_at_call 10; refine (HCO.out _ _ _ HXF.out).mono ?_; rintro e w10 ⟨rfl, n10, rfl⟩; have HXG := Lib.hid (HXF.out.drewN n10))
                | (with_reducible refine Hz.val_arm (o := ⟨some 61, .load _ (.tmp 13), _, _, _, _⟩) (by kernel_rfl) (Hz.ex_load_all 24 (.tmp 13) rfl rfl HKB.out Tryd.underlying24 rfl (by kernel_rfl)) ?_)
                | (with_reducible refine Hz.val_arm (o := ⟨some 66, .load _ (.tmp 13), _, _, _, _⟩) (by kernel_rfl) (Hz.ex_load_all 24 (.tmp 13) rfl rfl HKC.out Tryd.underlying24 rfl (by kernel_rfl)) ?_)
                | (with_reducible refine Hz.val_arm (o := ⟨some 73, .load _ (.tmp 13), _, _, _, _⟩) (by kernel_rfl) (Hz.ex_load_all 24 (.tmp 13) rfl rfl HKE.out Tryd.underlying24 rfl (by kernel_rfl)) ?_))
              go_ret
              exact ⟨rfl, HXF.out.low⟩
            · have e5 : (other / 4 % 16 == pc / 4 % 16) = false := by simpa using hq
              have HQ2 := Lib.hid (HQ.out hq)
              clear HQ
              have HCO2 := Lib.hid (fun y hy => HQ2.out ▸ HCO.out s2 g y hy)
              go_wp2_with (first
                | (go_at_call 10; (have HFIRST := HAF); clear HAF; refine (HCO.out _ _ _ HXA.out).mono ?_; rintro e w5 ⟨rfl, n5, rfl⟩; have HXB := Lib.hid (HXA.out.drewN n5); have HKB := Lib.hid (HKA.out.on (below_drewN' (Below.refl _ _) n5)))
                | (go_at_call 9; (have HSECOND := HAG); clear HAG; refine (HK1.out _ HOK.out _ HXB.out).mono ?_; rintro e w6 ⟨rfl, hg, hf⟩; have HXC := Lib.hid (HXB.out.put hf (HS1.out ▸ hg)); have HKC := Lib.hid (hf.blk HKB.out (by simp; omega)); clear hg hf)
                | (go_at_call 9; refine (HK1.out _ HOK1.out _ HXC.out).mono ?_; rintro e w7 ⟨rfl, hg, hf⟩; have HXD := Lib.hid (HXC.out.put hf (HS2.out ▸ hg)); have HKD := Lib.hid (hf.blk HKC.out (by simp; omega)); clear hg hf)
                | (go_at_call 5; refine (HAL.out _ HXD.out.low).mono ?_; rintro e w8 ⟨rfl, hb⟩; have HXE := Lib.hid (HXD.out.on hb); have HKE := Lib.hid (HKD.out.on hb); clear hb)
                | (go_at_call 7; refine (HNX2.out _ HXE.out).mono ?_; rintro e w9 ⟨rfl, hb⟩; have HXF := Lib.hid (HXE.out.on hb); clear hb)
                | (go_at_call 10; refine (HCO2.out _ HXF.out).mono ?_; rintro e w10 ⟨rfl, n10, rfl⟩; have HXG := Lib.hid (HXF.out.drewN n10))
                | (with_reducible refine Hz.val_arm (o := ⟨some 61, .load _ (.tmp 13), _, _, _, _⟩) (by kernel_rfl) (Hz.ex_load_all 24 (.tmp 13) rfl rfl HKB.out Tryd.underlying24 rfl (by kernel_rfl)) ?_)
                | (with_reducible refine Hz.val_arm (o := ⟨some 66, .load _ (.tmp 13), _, _, _, _⟩) (by kernel_rfl) (Hz.ex_load_all 24 (.tmp 13) rfl rfl HKC.out Tryd.underlying24 rfl (by kernel_rfl)) ?_)
                | (with_reducible refine Hz.val_arm (o := ⟨some 73, .load _ (.tmp 13), _, _, _, _⟩) (by kernel_rfl) (Hz.ex_load_all 24 (.tmp 13) rfl rfl HKE.out Tryd.underlying24 rfl (by kernel_rfl)) ?_))
              go_ret
              exact ⟨rfl, HXG.out.low⟩
        · have e4 : (imm == 4) = false := by simpa using h4
          have H4 := Lib.hid h4
          cases taken with
          | true =>
            have HXA := Lib.hid (HX.out.on (BW.new (Below.refl _ _) (.cells #[.int .i64 6, .int .i64 0, .int .i64 0, .int .i64 0, .int .i64 imm, .bool false, .bool false, .int .i64 0, .int .i64 0] 24)))
            have HKA := Lib.hid (Blk.new #[.int .i64 6, .int .i64 0, .int .i64 0, .int .i64 0, .int .i64 imm, .bool false, .bool false, .int .i64 0, .int .i64 0] 24 wr)
            have HLT : g < wr.heap.size := Blk.lt HX.out.at0
            have HTW := Lib.hid (twice (HOK.out) imm pc (IntKind.u64.wrap (pc + IntKind.u64.wrap imm)) H4.out (.inr rfl))
            have HK1 := Lib.hid (fun s ok y hy => HTR.out s ok g y hy ⟨bi imm, pc, (IntKind.u64.wrap (pc + IntKind.u64.wrap imm))⟩ ⟨i64_6, HP.out⟩)
            have HOK1 := Lib.hid (HOK.out.tr ⟨bi imm, pc, (IntKind.u64.wrap (pc + IntKind.u64.wrap imm))⟩)
            have HKN := Lib.hid (fun s y hy => HNX.out s g y hy imm)
            generalize hs1 : trG s ⟨bi imm, pc, (IntKind.u64.wrap (pc + IntKind.u64.wrap imm))⟩ = s1 at *
            generalize hs2 : trG s1 ⟨bi imm, pc, (IntKind.u64.wrap (pc + IntKind.u64.wrap imm))⟩ = s2 at *
            have HS1 := Lib.hid hs1
            have HS2 := Lib.hid hs2
            clear hs1 hs2
            have HNV : Hid (nxtG s2 (bi imm) pc = (IntKind.u64.wrap (pc + IntKind.u64.wrap imm))) := HTW.out.1
            have HQ : Hid (other / 4 % 16 ≠ pc / 4 % 16 → s2.c (numG other) = s.c (numG other)) := fun h => HTW.out.2 _ (fun e => h ((num_iff _ _).1 e))
            clear HTW
            have HNX2 := Lib.hid (fun y hy => HNV.out ▸ HKN.out s2 y hy)
            unfold bi insV at HNX2 HK1
            simp only at HNX2 HK1
            by_cases hq : other / 4 % 16 = pc / 4 % 16
            · clear HQ
              go_wp2_with (first
                | (go_at_call 10; (have HFIRST := HAF); clear HAF; refine (HCO.out _ _ _ HXA.out).mono ?_; rintro e w5 ⟨rfl, n5, rfl⟩; have HXB := Lib.hid (HXA.out.drewN n5); have HKB := Lib.hid (HKA.out.on (below_drewN' (Below.refl _ _) n5)))
                | (go_at_call 9; (have HSECOND := HAG); clear HAG; refine (HK1.out _ HOK.out _ HXB.out).mono ?_; rintro e w6 ⟨rfl, hg, hf⟩; have HXC := Lib.hid (HXB.out.put hf (HS1.out ▸ hg)); have HKC := Lib.hid (hf.blk HKB.out (by simp; omega)); clear hg hf)
                | (go_at_call 9; refine (HK1.out _ HOK1.out _ HXC.out).mono ?_; rintro e w7 ⟨rfl, hg, hf⟩; have HXD := Lib.hid (HXC.out.put hf (HS2.out ▸ hg)); have HKD := Lib.hid (hf.blk HKC.out (by simp; omega)); clear hg hf)
                | (go_at_call 5; refine (HAL.out _ HXD.out.low).mono ?_; rintro e w8 ⟨rfl, hb⟩; have HXE := Lib.hid (HXD.out.on hb); have HKE := Lib.hid (HKD.out.on hb); clear hb)
                | (go_at_call 7; refine (HNX2.out _ HXE.out).mono ?_; rintro e w9 ⟨rfl, hb⟩; have HXF := Lib.hid (HXE.out.on hb); clear hb)
                | (go_at_call 10; refine (HCO.out _ _ _ HXF.out).mono ?_; rintro e w10 ⟨rfl, n10, rfl⟩; have HXG := Lib.hid (HXF.out.drewN n10))
                | (with_reducible refine Hz.val_arm (o := ⟨some 61, .load _ (.tmp 13), _, _, _, _⟩) (by kernel_rfl) (Hz.ex_load_all 24 (.tmp 13) rfl rfl HKB.out Tryd.underlying24 rfl (by kernel_rfl)) ?_)
                | (with_reducible refine Hz.val_arm (o := ⟨some 66, .load _ (.tmp 13), _, _, _, _⟩) (by kernel_rfl) (Hz.ex_load_all 24 (.tmp 13) rfl rfl HKC.out Tryd.underlying24 rfl (by kernel_rfl)) ?_)
                | (with_reducible refine Hz.val_arm (o := ⟨some 73, .load _ (.tmp 13), _, _, _, _⟩) (by kernel_rfl) (Hz.ex_load_all 24 (.tmp 13) rfl rfl HKE.out Tryd.underlying24 rfl (by kernel_rfl)) ?_))
              go_ret
              exact ⟨rfl, HXF.out.low⟩
            · have e5 : (other / 4 % 16 == pc / 4 % 16) = false := by simpa using hq
              have HQ2 := Lib.hid (HQ.out hq)
              clear HQ
              have HCO2 := Lib.hid (fun y hy => HQ2.out ▸ HCO.out s2 g y hy)
              go_wp2_with (first
                | (go_at_call 10; (have HFIRST := HAF); clear HAF; refine (HCO.out _ _ _ HXA.out).mono ?_; rintro e w5 ⟨rfl, n5, rfl⟩; have HXB := Lib.hid (HXA.out.drewN n5); have HKB := Lib.hid (HKA.out.on (below_drewN' (Below.refl _ _) n5)))
                | (go_at_call 9; (have HSECOND := HAG); clear HAG; refine (HK1.out _ HOK.out _ HXB.out).mono ?_; rintro e w6 ⟨rfl, hg, hf⟩; have HXC := Lib.hid (HXB.out.put hf (HS1.out ▸ hg)); have HKC := Lib.hid (hf.blk HKB.out (by simp; omega)); clear hg hf)
                | (go_at_call 9; refine (HK1.out _ HOK1.out _ HXC.out).mono ?_; rintro e w7 ⟨rfl, hg, hf⟩; have HXD := Lib.hid (HXC.out.put hf (HS2.out ▸ hg)); have HKD := Lib.hid (hf.blk HKC.out (by simp; omega)); clear hg hf)
                | (go_at_call 5; refine (HAL.out _ HXD.out.low).mono ?_; rintro e w8 ⟨rfl, hb⟩; have HXE := Lib.hid (HXD.out.on hb); have HKE := Lib.hid (HKD.out.on hb); clear hb)
                | (go_at_call 7; refine (HNX2.out _ HXE.out).mono ?_; rintro e w9 ⟨rfl, hb⟩; have HXF := Lib.hid (HXE.out.on hb); clear hb)
                | (go_at_call 10; refine (HCO2.out _ HXF.out).mono ?_; rintro e w10 ⟨rfl, n10, rfl⟩; have HXG := Lib.hid (HXF.out.drewN n10))
                | (with_reducible refine Hz.val_arm (o := ⟨some 61, .load _ (.tmp 13), _, _, _, _⟩) (by kernel_rfl) (Hz.ex_load_all 24 (.tmp 13) rfl rfl HKB.out Tryd.underlying24 rfl (by kernel_rfl)) ?_)
                | (with_reducible refine Hz.val_arm (o := ⟨some 66, .load _ (.tmp 13), _, _, _, _⟩) (by kernel_rfl) (Hz.ex_load_all 24 (.tmp 13) rfl rfl HKC.out Tryd.underlying24 rfl (by kernel_rfl)) ?_)
                | (with_reducible refine Hz.val_arm (o := ⟨some 73, .load _ (.tmp 13), _, _, _, _⟩) (by kernel_rfl) (Hz.ex_load_all 24 (.tmp 13) rfl rfl HKE.out Tryd.underlying24 rfl (by kernel_rfl)) ?_))
              go_ret
              exact ⟨rfl, HXG.out.low⟩
          | false =>
            have HXA := Lib.hid (HX.out.on (BW.new (Below.refl _ _) (.cells #[.int .i64 6, .int .i64 0, .int .i64 0, .int .i64 0, .int .i64 imm, .bool false, .bool false, .int .i64 0, .int .i64 0] 24)))
            have HKA := Lib.hid (Blk.new #[.int .i64 6, .int .i64 0, .int .i64 0, .int .i64 0, .int .i64 imm, .bool false, .bool false, .int .i64 0, .int .i64 0] 24 wr)
            have HLT : g < wr.heap.size := Blk.lt HX.out.at0
            have HTW := Lib.hid (twice (HOK.out) imm pc (IntKind.u64.wrap (pc + 4)) H4.out (.inl rfl))
            have HK1 := Lib.hid (fun s ok y hy => HTR.out s ok g y hy ⟨bi imm, pc, (IntKind.u64.wrap (pc + 4))⟩ ⟨i64_6, HP.out⟩)
            have HOK1 := Lib.hid (HOK.out.tr ⟨bi imm, pc, (IntKind.u64.wrap (pc + 4))⟩)
            have HKN := Lib.hid (fun s y hy => HNX.out s g y hy imm)
            generalize hs1 : trG s ⟨bi imm, pc, (IntKind.u64.wrap (pc + 4))⟩ = s1 at *
            generalize hs2 : trG s1 ⟨bi imm, pc, (IntKind.u64.wrap (pc + 4))⟩ = s2 at *
            have HS1 := Lib.hid hs1
            have HS2 := Lib.hid hs2
            clear hs1 hs2
            have HNV : Hid (nxtG s2 (bi imm) pc = (IntKind.u64.wrap (pc + 4))) := HTW.out.1
            have HQ : Hid (other / 4 % 16 ≠ pc / 4 % 16 → s2.c (numG other) = s.c (numG other)) := fun h => HTW.out.2 _ (fun e => h ((num_iff _ _).1 e))
            clear HTW
            have HNX2 := Lib.hid (fun y hy => HNV.out ▸ HKN.out s2 y hy)
            unfold bi insV at HNX2 HK1
            simp only at HNX2 HK1
            by_cases hq : other / 4 % 16 = pc / 4 % 16
            · clear HQ
              go_wp2_with (first
                | (go_at_call 10; (have HFIRST := HAF); clear HAF; refine (HCO.out _ _ _ HXA.out).mono ?_; rintro e w5 ⟨rfl, n5, rfl⟩; have HXB := Lib.hid (HXA.out.drewN n5); have HKB := Lib.hid (HKA.out.on (below_drewN' (Below.refl _ _) n5)))
                | (go_at_call 9; (have HSECOND := HAG); clear HAG; refine (HK1.out _ HOK.out _ HXB.out).mono ?_; rintro e w6 ⟨rfl, hg, hf⟩; have HXC := Lib.hid (HXB.out.put hf (HS1.out ▸ hg)); have HKC := Lib.hid (hf.blk HKB.out (by simp; omega)); clear hg hf)
                | (go_at_call 9; refine (HK1.out _ HOK1.out _ HXC.out).mono ?_; rintro e w7 ⟨rfl, hg, hf⟩; have HXD := Lib.hid (HXC.out.put hf (HS2.out ▸ hg)); have HKD := Lib.hid (hf.blk HKC.out (by simp; omega)); clear hg hf)
                | (go_at_call 5; refine (HAL.out _ HXD.out.low).mono ?_; rintro e w8 ⟨rfl, hb⟩; have HXE := Lib.hid (HXD.out.on hb); have HKE := Lib.hid (HKD.out.on hb); clear hb)
                | (go_at_call 7; refine (HNX2.out _ HXE.out).mono ?_; rintro e w9 ⟨rfl, hb⟩; have HXF := Lib.hid (HXE.out.on hb); clear hb)
                | (go_at_call 10; refine (HCO.out _ _ _ HXF.out).mono ?_; rintro e w10 ⟨rfl, n10, rfl⟩; have HXG := Lib.hid (HXF.out.drewN n10))
                | (with_reducible refine Hz.val_arm (o := ⟨some 61, .load _ (.tmp 13), _, _, _, _⟩) (by kernel_rfl) (Hz.ex_load_all 24 (.tmp 13) rfl rfl HKB.out Tryd.underlying24 rfl (by kernel_rfl)) ?_)
                | (with_reducible refine Hz.val_arm (o := ⟨some 66, .load _ (.tmp 13), _, _, _, _⟩) (by kernel_rfl) (Hz.ex_load_all 24 (.tmp 13) rfl rfl HKC.out Tryd.underlying24 rfl (by kernel_rfl)) ?_)
                | (with_reducible refine Hz.val_arm (o := ⟨some 73, .load _ (.tmp 13), _, _, _, _⟩) (by kernel_rfl) (Hz.ex_load_all 24 (.tmp 13) rfl rfl HKE.out Tryd.underlying24 rfl (by kernel_rfl)) ?_))
              go_ret
              exact ⟨rfl, HXF.out.low⟩
            · have e5 : (other / 4 % 16 == pc / 4 % 16) = false := by simpa using hq
              have HQ2 := Lib.hid (HQ.out hq)
              clear HQ
              have HCO2 := Lib.hid (fun y hy => HQ2.out ▸ HCO.out s2 g y hy)
              go_wp2_with (first
                | (go_at_call 10; (have HFIRST := HAF); clear HAF; refine (HCO.out _ _ _ HXA.out).mono ?_; rintro e w5 ⟨rfl, n5, rfl⟩; have HXB := Lib.hid (HXA.out.drewN n5); have HKB := Lib.hid (HKA.out.on (below_drewN' (Below.refl _ _) n5)))
                | (go_at_call 9; (have HSECOND := HAG); clear HAG; refine (HK1.out _ HOK.out _ HXB.out).mono ?_; rintro e w6 ⟨rfl, hg, hf⟩; have HXC := Lib.hid (HXB.out.put hf (HS1.out ▸ hg)); have HKC := Lib.hid (hf.blk HKB.out (by simp; omega)); clear hg hf)
                | (go_at_call 9; refine (HK1.out _ HOK1.out _ HXC.out).mono ?_; rintro e w7 ⟨rfl, hg, hf⟩; have HXD := Lib.hid (HXC.out.put hf (HS2.out ▸ hg)); have HKD := Lib.hid (hf.blk HKC.out (by simp; omega)); clear hg hf)
                | (go_at_call 5; refine (HAL.out _ HXD.out.low).mono ?_; rintro e w8 ⟨rfl, hb⟩; have HXE := Lib.hid (HXD.out.on hb); have HKE := Lib.hid (HKD.out.on hb); clear hb)
                | (go_at_call 7; refine (HNX2.out _ HXE.out).mono ?_; rintro e w9 ⟨rfl, hb⟩; have HXF := Lib.hid (HXE.out.on hb); clear hb)
                | (go_at_call 10; refine (HCO2.out _ HXF.out).mono ?_; rintro e w10 ⟨rfl, n10, rfl⟩; have HXG := Lib.hid (HXF.out.drewN n10))
                | (with_reducible refine Hz.val_arm (o := ⟨some 61, .load _ (.tmp 13), _, _, _, _⟩) (by kernel_rfl) (Hz.ex_load_all 24 (.tmp 13) rfl rfl HKB.out Tryd.underlying24 rfl (by kernel_rfl)) ?_)
                | (with_reducible refine Hz.val_arm (o := ⟨some 66, .load _ (.tmp 13), _, _, _, _⟩) (by kernel_rfl) (Hz.ex_load_all 24 (.tmp 13) rfl rfl HKC.out Tryd.underlying24 rfl (by kernel_rfl)) ?_)
                | (with_reducible refine Hz.val_arm (o := ⟨some 73, .load _ (.tmp 13), _, _, _, _⟩) (by kernel_rfl) (Hz.ex_load_all 24 (.tmp 13) rfl rfl HKE.out Tryd.underlying24 rfl (by kernel_rfl)) ?_))
              go_ret
              exact ⟨rfl, HXG.out.low⟩
      · by_cases hlt : (k : Int) < (l.length : Int)
        · clear hc
          by_cases h4 : imm = 4
          · subst h4
            cases taken with
            | true =>
              have HXA := Lib.hid (HX.out.on (BW.new (Below.refl _ _) (.cells #[.int .i64 6, .int .i64 0, .int .i64 0, .int .i64 0, .int .i64 8, .bool false, .bool false, .int .i64 0, .int .i64 0] 24)))
              have HKA := Lib.hid (Blk.new #[.int .i64 6, .int .i64 0, .int .i64 0, .int .i64 0, .int .i64 8, .bool false, .bool false, .int .i64 0, .int .i64 0] 24 wr)
              have HLT : g < wr.heap.size := Blk.lt HX.out.at0
              have HTW := Lib.hid (twice (HOK.out) 8 pc (IntKind.u64.wrap (pc + IntKind.u64.wrap 8)) (by decide) (.inr rfl))
              have HK1 := Lib.hid (fun s ok y hy => HTR.out s ok g y hy ⟨bi 8, pc, (IntKind.u64.wrap (pc + IntKind.u64.wrap 8))⟩ ⟨i64_6, HP.out⟩)
              have HOK1 := Lib.hid (HOK.out.tr ⟨bi 8, pc, (IntKind.u64.wrap (pc + IntKind.u64.wrap 8))⟩)
              have HKN := Lib.hid (fun s y hy => HNX.out s g y hy 8)
              generalize hs1 : trG s ⟨bi 8, pc, (IntKind.u64.wrap (pc + IntKind.u64.wrap 8))⟩ = s1 at *
              generalize hs2 : trG s1 ⟨bi 8, pc, (IntKind.u64.wrap (pc + IntKind.u64.wrap 8))⟩ = s2 at *
              have HS1 := Lib.hid hs1
              have HS2 := Lib.hid hs2
              clear hs1 hs2
              have HNV : Hid (nxtG s2 (bi 8) pc = (IntKind.u64.wrap (pc + IntKind.u64.wrap 8))) := HTW.out.1
              have HQ : Hid (other / 4 % 16 ≠ pc / 4 % 16 → s2.c (numG other) = s.c (numG other)) := fun h => HTW.out.2 _ (fun e => h ((num_iff _ _).1 e))
              clear HTW
              have HNX2 := Lib.hid (fun y hy => HNV.out ▸ HKN.out s2 y hy)
              unfold bi insV at HNX2 HK1
              simp only at HNX2 HK1
              by_cases hq : other / 4 % 16 = pc / 4 % 16
              · clear HQ
                go_wp2_with (first
                  | (go_at_call 10; (have HFIRST := HAF); clear HAF; refine (HCO.out _ _ _ HXA.out).mono ?_; rintro e w5 ⟨rfl, n5, rfl⟩; have HXB := Lib.hid (HXA.out.drewN n5); have HKB := Lib.hid (HKA.out.on (below_drewN' (Below.refl _ _) n5)))
                  | (go_at_call 9; (have HSECOND := HAG); clear HAG; refine (HK1.out _ HOK.out _ HXB.out).mono ?_; rintro e w6 ⟨rfl, hg, hf⟩; have HXC := Lib.hid (HXB.out.put hf (HS1.out ▸ hg)); have HKC := Lib.hid (hf.blk HKB.out (by simp; omega)); clear hg hf)
                  | (go_at_call 9; refine (HK1.out _ HOK1.out _ HXC.out).mono ?_; rintro e w7 ⟨rfl, hg, hf⟩; have HXD := Lib.hid (HXC.out.put hf (HS2.out ▸ hg)); have HKD := Lib.hid (hf.blk HKC.out (by simp; omega)); clear hg hf)
                  | (go_at_call 5; refine (HAL.out _ HXD.out.low).mono ?_; rintro e w8 ⟨rfl, hb⟩; have HXE := Lib.hid (HXD.out.on hb); have HKE := Lib.hid (HKD.out.on hb); clear hb)
                  | (go_at_call 7; refine (HNX2.out _ HXE.out).mono ?_; rintro e w9 ⟨rfl, hb⟩; have HXF := Lib.hid (HXE.out.on hb); clear hb)
                  | (go_at_call 10; refine (HCO.out _ _ _ HXF.out).mono ?_; rintro e w10 ⟨rfl, n10, rfl⟩; have HXG := Lib.hid (HXF.out.drewN n10))
                  | (with_reducible refine Hz.val_arm (o := ⟨some 61, .load _ (.tmp 13), _, _, _, _⟩) (by kernel_rfl) (Hz.ex_load_all 24 (.tmp 13) rfl rfl HKB.out Tryd.underlying24 rfl (by kernel_rfl)) ?_)
                  | (with_reducible refine Hz.val_arm (o := ⟨some 66, .load _ (.tmp 13), _, _, _, _⟩) (by kernel_rfl) (Hz.ex_load_all 24 (.tmp 13) rfl rfl HKC.out Tryd.underlying24 rfl (by kernel_rfl)) ?_)
                  | (with_reducible refine Hz.val_arm (o := ⟨some 73, .load _ (.tmp 13), _, _, _, _⟩) (by kernel_rfl) (Hz.ex_load_all 24 (.tmp 13) rfl rfl HKE.out Tryd.underlying24 rfl (by kernel_rfl)) ?_))
                go_ret
                exact ⟨rfl, HXF.out.low⟩
              · have e5 : (other / 4 % 16 == pc / 4 % 16) = false := by simpa using hq
                have HQ2 := Lib.hid (HQ.out hq)
                clear HQ
                have HCO2 := Lib.hid (fun y hy => HQ2.out ▸ HCO.out s2 g y hy)
                go_wp2_with (first
                  | (go_at_call 10; (have HFIRST := HAF); clear HAF; refine (HCO.out _ _ _ HXA.out).mono ?_; rintro e w5 ⟨rfl, n5, rfl⟩; have HXB := Lib.hid (HXA.out.drewN n5); have HKB := Lib.hid (HKA.out.on (below_drewN' (Below.refl _ _) n5)))
                  | (go_at_call 9; (have HSECOND := HAG); clear HAG; refine (HK1.out _ HOK.out _ HXB.out).mono ?_; rintro e w6 ⟨rfl, hg, hf⟩; have HXC := Lib.hid (HXB.out.put hf (HS1.out ▸ hg)); have HKC := Lib.hid (hf.blk HKB.out (by simp; omega)); clear hg hf)
                  | (go_at_call 9; refine (HK1.out _ HOK1.out _ HXC.out).mono ?_; rintro e w7 ⟨rfl, hg, hf⟩; have HXD := Lib.hid (HXC.out.put hf (HS2.out ▸ hg)); have HKD := Lib.hid (hf.blk HKC.out (by simp; omega)); clear hg hf)
                  | (go_at_call 5; refine (HAL.out _ HXD.out.low).mono ?_; rintro e w8 ⟨rfl, hb⟩; have HXE := Lib.hid (HXD.out.on hb); have HKE := Lib.hid (HKD.out.on hb); clear hb)
                  | (go_at_call 7; refine (HNX2.out _ HXE.out).mono ?_; rintro e w9 ⟨rfl, hb⟩; have HXF := Lib.hid (HXE.out.on hb); clear hb)
                  | (go_at_call 10; refine (HCO2.out _ HXF.out).mono ?_; rintro e w10 ⟨rfl, n10, rfl⟩; have HXG := Lib.hid (HXF.out.drewN n10))
                  | (with_reducible refine Hz.val_arm (o := ⟨some 61, .load _ (.tmp 13), _, _, _, _⟩) (by kernel_rfl) (Hz.ex_load_all 24 (.tmp 13) rfl rfl HKB.out Tryd.underlying24 rfl (by kernel_rfl)) ?_)
                  | (with_reducible refine Hz.val_arm (o := ⟨some 66, .load _ (.tmp 13), _, _, _, _⟩) (by kernel_rfl) (Hz.ex_load_all 24 (.tmp 13) rfl rfl HKC.out Tryd.underlying24 rfl (by kernel_rfl)) ?_)
                  | (with_reducible refine Hz.val_arm (o := ⟨some 73, .load _ (.tmp 13), _, _, _, _⟩) (by kernel_rfl) (Hz.ex_load_all 24 (.tmp 13) rfl rfl HKE.out Tryd.underlying24 rfl (by kernel_rfl)) ?_))
                go_ret
                exact ⟨rfl, HXG.out.low⟩
            | false =>
              have HXA := Lib.hid (HX.out.on (BW.new (Below.refl _ _) (.cells #[.int .i64 6, .int .i64 0, .int .i64 0, .int .i64 0, .int .i64 8, .bool false, .bool false, .int .i64 0, .int .i64 0] 24)))
              have HKA := Lib.hid (Blk.new #[.int .i64 6, .int .i64 0, .int .i64 0, .int .i64 0, .int .i64 8, .bool false, .bool false, .int .i64 0, .int .i64 0] 24 wr)
              have HLT : g < wr.heap.size := Blk.lt HX.out.at0
              have HTW := Lib.hid (twice (HOK.out) 8 pc (IntKind.u64.wrap (pc + 4)) (by decide) (.inl rfl))
              have HK1 := Lib.hid (fun s ok y hy => HTR.out s ok g y hy ⟨bi 8, pc, (IntKind.u64.wrap (pc + 4))⟩ ⟨i64_6, HP.out⟩)
              have HOK1 := Lib.hid (HOK.out.tr ⟨bi 8, pc, (IntKind.u64.wrap (pc + 4))⟩)
              have HKN := Lib.hid (fun s y hy => HNX.out s g y hy 8)
              generalize hs1 : trG s ⟨bi 8, pc, (IntKind.u64.wrap (pc + 4))⟩ = s1 at *
              generalize hs2 : trG s1 ⟨bi 8, pc, (IntKind.u64.wrap (pc + 4))⟩ = s2 at *
              have HS1 := Lib.hid hs1
              have HS2 := Lib.hid hs2
              clear hs1 hs2
              have HNV : Hid (nxtG s2 (bi 8) pc = (IntKind.u64.wrap (pc + 4))) := HTW.out.1
              have HQ : Hid (other / 4 % 16 ≠ pc / 4 % 16 → s2.c (numG other) = s.c (numG other)) := fun h => HTW.out.2 _ (fun e => h ((num_iff _ _).1 e))
              clear HTW
              have HNX2 := Lib.hid (fun y hy => HNV.out ▸ HKN.out s2 y hy)
              unfold bi insV at HNX2 HK1
              simp only at HNX2 HK1
              by_cases hq : other / 4 % 16 = pc / 4 % 16
              · clear HQ
                go_wp2_with (first
                  | (go_at_call 10; (have HFIRST := HAF); clear HAF; refine (HCO.out _ _ _ HXA.out).mono ?_; rintro e w5 ⟨rfl, n5, rfl⟩; have HXB := Lib.hid (HXA.out.drewN n5); have HKB := Lib.hid (HKA.out.on (below_drewN' (Below.refl _ _) n5)))
                  | (go_at_call 9; (have HSECOND := HAG); clear HAG; refine (HK1.out _ HOK.out _ HXB.out).mono ?_; rintro e w6 ⟨rfl, hg, hf⟩; have HXC := Lib.hid (HXB.out.put hf (HS1.out ▸ hg)); have HKC := Lib.hid (hf.blk HKB.out (by simp; omega)); clear hg hf)
                  | (go_at_call 9; refine (HK1.out _ HOK1.out _ HXC.out).mono ?_; rintro e w7 ⟨rfl, hg, hf⟩; have HXD := Lib.hid (HXC.out.put hf (HS2.out ▸ hg)); have HKD := Lib.hid (hf.blk HKC.out (by simp; omega)); clear hg hf)
                  | (go_at_call 5; refine (HAL.out _ HXD.out.low).mono ?_; rintro e w8 ⟨rfl, hb⟩; have HXE := Lib.hid (HXD.out.on hb); have HKE := Lib.hid (HKD.out.on hb); clear hb)
                  | (go_at_call 7; refine (HNX2.out _ HXE.out).mono ?_; rintro e w9 ⟨rfl, hb⟩; have HXF := Lib.hid (HXE.out.on hb); clear hb)
                  | (go_at_call 10; refine (HCO.out _ _ _ HXF.out).mono ?_; rintro e w10 ⟨rfl, n10, rfl⟩; have HXG := Lib.hid (HXF.out.drewN n10))
                  | (with_reducible refine Hz.val_arm (o := ⟨some 61, .load _ (.tmp 13), _, _, _, _⟩) (by kernel_rfl) (Hz.ex_load_all 24 (.tmp 13) rfl rfl HKB.out Tryd.underlying24 rfl (by kernel_rfl)) ?_)
                  | (with_reducible refine Hz.val_arm (o := ⟨some 66, .load _ (.tmp 13), _, _, _, _⟩) (by kernel_rfl) (Hz.ex_load_all 24 (.tmp 13) rfl rfl HKC.out Tryd.underlying24 rfl (by kernel_rfl)) ?_)
                  | (with_reducible refine Hz.val_arm (o := ⟨some 73, .load _ (.tmp 13), _, _, _, _⟩) (by kernel_rfl) (Hz.ex_load_all 24 (.tmp 13) rfl rfl HKE.out Tryd.underlying24 rfl (by kernel_rfl)) ?_))
                go_ret
                exact ⟨rfl, HXF.out.low⟩
              · have e5 : (other / 4 % 16 == pc / 4 % 16) = false := by simpa using hq
                have HQ2 := Lib.hid (HQ.out hq)
                clear HQ
                have HCO2 := Lib.hid (fun y hy => HQ2.out ▸ HCO.out s2 g y hy)
                go_wp2_with (first
                  | (go_at_call 10; (have HFIRST := HAF); clear HAF; refine (HCO.out _ _ _ HXA.out).mono ?_; rintro e w5 ⟨rfl, n5, rfl⟩; have HXB := Lib.hid (HXA.out.drewN n5); have HKB := Lib.hid (HKA.out.on (below_drewN' (Below.refl _ _) n5)))
                  | (go_at_call 9; (have HSECOND := HAG); clear HAG; refine (HK1.out _ HOK.out _ HXB.out).mono ?_; rintro e w6 ⟨rfl, hg, hf⟩; have HXC := Lib.hid (HXB.out.put hf (HS1.out ▸ hg)); have HKC := Lib.hid (hf.blk HKB.out (by simp; omega)); clear hg hf)
                  | (go_at_call 9; refine (HK1.out _ HOK1.out _ HXC.out).mono ?_; rintro e w7 ⟨rfl, hg, hf⟩; have HXD := Lib.hid (HXC.out.put hf (HS2.out ▸ hg)); have HKD := Lib.hid (hf.blk HKC.out (by simp; omega)); clear hg hf)
                  | (go_at_call 5; refine (HAL.out _ HXD.out.low).mono ?_; rintro e w8 ⟨rfl, hb⟩; have HXE := Lib.hid (HXD.out.on hb); have HKE := Lib.hid (HKD.out.on hb); clear hb)
                  | (go_at_call 7; refine (HNX2.out _ HXE.out).mono ?_; rintro e w9 ⟨rfl, hb⟩; have HXF := Lib.hid (HXE.out.on hb); clear hb)
                  | (go_at_call 10; refine (HCO2.out _ HXF.out).mono ?_; rintro e w10 ⟨rfl, n10, rfl⟩; have HXG := Lib.hid (HXF.out.drewN n10))
                  | (with_reducible refine Hz.val_arm (o := ⟨some 61, .load _ (.tmp 13), _, _, _, _⟩) (by kernel_rfl) (Hz.ex_load_all 24 (.tmp 13) rfl rfl HKB.out Tryd.underlying24 rfl (by kernel_rfl)) ?_)
                  | (with_reducible refine Hz.val_arm (o := ⟨some 66, .load _ (.tmp 13), _, _, _, _⟩) (by kernel_rfl) (Hz.ex_load_all 24 (.tmp 13) rfl rfl HKC.out Tryd.underlying24 rfl (by kernel_rfl)) ?_)
                  | (with_reducible refine Hz.val_arm (o := ⟨some 73, .load _ (.tmp 13), _, _, _, _⟩) (by kernel_rfl) (Hz.ex_load_all 24 (.tmp 13) rfl rfl HKE.out Tryd.underlying24 rfl (by kernel_rfl)) ?_))
                go_ret
                exact ⟨rfl, HXG.out.low⟩
          · have e4 : (imm == 4) = false := by simpa using h4
            have H4 := Lib.hid h4
            cases taken with
            | true =>
              have HXA := Lib.hid (HX.out.on (BW.new (Below.refl _ _) (.cells #[.int .i64 6, .int .i64 0, .int .i64 0, .int .i64 0, .int .i64 imm, .bool false, .bool false, .int .i64 0, .int .i64 0] 24)))
              have HKA := Lib.hid (Blk.new #[.int .i64 6, .int .i64 0, .int .i64 0, .int .i64 0, .int .i64 imm, .bool false, .bool false, .int .i64 0, .int .i64 0] 24 wr)
              have HLT : g < wr.heap.size := Blk.lt HX.out.at0
              have HTW := Lib.hid (twice (HOK.out) imm pc (IntKind.u64.wrap (pc + IntKind.u64.wrap imm)) H4.out (.inr rfl))
              have HK1 := Lib.hid (fun s ok y hy => HTR.out s ok g y hy ⟨bi imm, pc, (IntKind.u64.wrap (pc + IntKind.u64.wrap imm))⟩ ⟨i64_6, HP.out⟩)
              have HOK1 := Lib.hid (HOK.out.tr ⟨bi imm, pc, (IntKind.u64.wrap (pc + IntKind.u64.wrap imm))⟩)
              have HKN := Lib.hid (fun s y hy => HNX.out s g y hy imm)
              generalize hs1 : trG s ⟨bi imm, pc, (IntKind.u64.wrap (pc + IntKind.u64.wrap imm))⟩ = s1 at *
              generalize hs2 : trG s1 ⟨bi imm, pc, (IntKind.u64.wrap (pc + IntKind.u64.wrap imm))⟩ = s2 at *
              have HS1 := Lib.hid hs1
              have HS2 := Lib.hid hs2
              clear hs1 hs2
              have HNV : Hid (nxtG s2 (bi imm) pc = (IntKind.u64.wrap (pc + IntKind.u64.wrap imm))) := HTW.out.1
              have HQ : Hid (other / 4 % 16 ≠ pc / 4 % 16 → s2.c (numG other) = s.c (numG other)) := fun h => HTW.out.2 _ (fun e => h ((num_iff _ _).1 e))
              clear HTW
              have HNX2 := Lib.hid (fun y hy => HNV.out ▸ HKN.out s2 y hy)
              unfold bi insV at HNX2 HK1
              simp only at HNX2 HK1
              by_cases hq : other / 4 % 16 = pc / 4 % 16
              · clear HQ
                go_wp2_with (first
                  | (go_at_call 10; (have HFIRST := HAF); clear HAF; refine (HCO.out _ _ _ HXA.out).mono ?_; rintro e w5 ⟨rfl, n5, rfl⟩; have HXB := Lib.hid (HXA.out.drewN n5); have HKB := Lib.hid (HKA.out.on (below_drewN' (Below.refl _ _) n5)))
                  | (go_at_call 9; (have HSECOND := HAG); clear HAG; refine (HK1.out _ HOK.out _ HXB.out).mono ?_; rintro e w6 ⟨rfl, hg, hf⟩; have HXC := Lib.hid (HXB.out.put hf (HS1.out ▸ hg)); have HKC := Lib.hid (hf.blk HKB.out (by simp; omega)); clear hg hf)
                  | (go_at_call 9; refine (HK1.out _ HOK1.out _ HXC.out).mono ?_; rintro e w7 ⟨rfl, hg, hf⟩; have HXD := Lib.hid (HXC.out.put hf (HS2.out ▸ hg)); have HKD := Lib.hid (hf.blk HKC.out (by simp; omega)); clear hg hf)
                  | (go_at_call 5; refine (HAL.out _ HXD.out.low).mono ?_; rintro e w8 ⟨rfl, hb⟩; have HXE := Lib.hid (HXD.out.on hb); have HKE := Lib.hid (HKD.out.on hb); clear hb)
                  | (go_at_call 7; refine (HNX2.out _ HXE.out).mono ?_; rintro e w9 ⟨rfl, hb⟩; have HXF := Lib.hid (HXE.out.on hb); clear hb)
                  | (go_at_call 10; refine (HCO.out _ _ _ HXF.out).mono ?_; rintro e w10 ⟨rfl, n10, rfl⟩; have HXG := Lib.hid (HXF.out.drewN n10))
                  | (with_reducible refine Hz.val_arm (o := ⟨some 61, .load _ (.tmp 13), _, _, _, _⟩) (by kernel_rfl) (Hz.ex_load_all 24 (.tmp 13) rfl rfl HKB.out Tryd.underlying24 rfl (by kernel_rfl)) ?_)
                  | (with_reducible refine Hz.val_arm (o := ⟨some 66, .load _ (.tmp 13), _, _, _, _⟩) (by kernel_rfl) (Hz.ex_load_all 24 (.tmp 13) rfl rfl HKC.out Tryd.underlying24 rfl (by kernel_rfl)) ?_)
                  | (with_reducible refine Hz.val_arm (o := ⟨some 73, .load _ (.tmp 13), _, _, _, _⟩) (by kernel_rfl) (Hz.ex_load_all 24 (.tmp 13) rfl rfl HKE.out Tryd.underlying24 rfl (by kernel_rfl)) ?_))
                go_ret
                exact ⟨rfl, HXF.out.low⟩
              · have e5 : (other / 4 % 16 == pc / 4 % 16) = false := by simpa using hq
                have HQ2 := Lib.hid (HQ.out hq)
                clear HQ
                have HCO2 := Lib.hid (fun y hy => HQ2.out ▸ HCO.out s2 g y hy)
                go_wp2_with (first
                  | (go_at_call 10; (have HFIRST := HAF); clear HAF; refine (HCO.out _ _ _ HXA.out).mono ?_; rintro e w5 ⟨rfl, n5, rfl⟩; have HXB := Lib.hid (HXA.out.drewN n5); have HKB := Lib.hid (HKA.out.on (below_drewN' (Below.refl _ _) n5)))
                  | (go_at_call 9; (have HSECOND := HAG); clear HAG; refine (HK1.out _ HOK.out _ HXB.out).mono ?_; rintro e w6 ⟨rfl, hg, hf⟩; have HXC := Lib.hid (HXB.out.put hf (HS1.out ▸ hg)); have HKC := Lib.hid (hf.blk HKB.out (by simp; omega)); clear hg hf)
                  | (go_at_call 9; refine (HK1.out _ HOK1.out _ HXC.out).mono ?_; rintro e w7 ⟨rfl, hg, hf⟩; have HXD := Lib.hid (HXC.out.put hf (HS2.out ▸ hg)); have HKD := Lib.hid (hf.blk HKC.out (by simp; omega)); clear hg hf)
                  | (go_at_call 5; refine (HAL.out _ HXD.out.low).mono ?_; rintro e w8 ⟨rfl, hb⟩; have HXE := Lib.hid (HXD.out.on hb); have HKE := Lib.hid (HKD.out.on hb); clear hb)
                  | (go_at_call 7; refine (HNX2.out _ HXE.out).mono ?_; rintro e w9 ⟨rfl, hb⟩; have HXF := Lib.hid (HXE.out.on hb); clear hb)
                  | (go_at_call 10; refine (HCO2.out _ HXF.out).mono ?_; rintro e w10 ⟨rfl, n10, rfl⟩; have HXG := Lib.hid (HXF.out.drewN n10))
                  | (with_reducible refine Hz.val_arm (o := ⟨some 61, .load _ (.tmp 13), _, _, _, _⟩) (by kernel_rfl) (Hz.ex_load_all 24 (.tmp 13) rfl rfl HKB.out Tryd.underlying24 rfl (by kernel_rfl)) ?_)
                  | (with_reducible refine Hz.val_arm (o := ⟨some 66, .load _ (.tmp 13), _, _, _, _⟩) (by kernel_rfl) (Hz.ex_load_all 24 (.tmp 13) rfl rfl HKC.out Tryd.underlying24 rfl (by kernel_rfl)) ?_)
                  | (with_reducible refine Hz.val_arm (o := ⟨some 73, .load _ (.tmp 13), _, _, _, _⟩) (by kernel_rfl) (Hz.ex_load_all 24 (.tmp 13) rfl rfl HKE.out Tryd.underlying24 rfl (by kernel_rfl)) ?_))
                go_ret
                exact ⟨rfl, HXG.out.low⟩
            | false =>
              have HXA := Lib.hid (HX.out.on (BW.new (Below.refl _ _) (.cells #[.int .i64 6, .int .i64 0, .int .i64 0, .int .i64 0, .int .i64 imm, .bool false, .bool false, .int .i64 0, .int .i64 0] 24)))
              have HKA := Lib.hid (Blk.new #[.int .i64 6, .int .i64 0, .int .i64 0, .int .i64 0, .int .i64 imm, .bool false, .bool false, .int .i64 0, .int .i64 0] 24 wr)
              have HLT : g < wr.heap.size := Blk.lt HX.out.at0
              have HTW := Lib.hid (twice (HOK.out) imm pc (IntKind.u64.wrap (pc + 4)) H4.out (.inl rfl))
              have HK1 := Lib.hid (fun s ok y hy => HTR.out s ok g y hy ⟨bi imm, pc, (IntKind.u64.wrap (pc + 4))⟩ ⟨i64_6, HP.out⟩)
              have HOK1 := Lib.hid (HOK.out.tr ⟨bi imm, pc, (IntKind.u64.wrap (pc + 4))⟩)
              have HKN := Lib.hid (fun s y hy => HNX.out s g y hy imm)
              generalize hs1 : trG s ⟨bi imm, pc, (IntKind.u64.wrap (pc + 4))⟩ = s1 at *
              generalize hs2 : trG s1 ⟨bi imm, pc, (IntKind.u64.wrap (pc + 4))⟩ = s2 at *
              have HS1 := Lib.hid hs1
              have HS2 := Lib.hid hs2
              clear hs1 hs2
              have HNV : Hid (nxtG s2 (bi imm) pc = (IntKind.u64.wrap (pc + 4))) := HTW.out.1
              have HQ : Hid (other / 4 % 16 ≠ pc / 4 % 16 → s2.c (numG other) = s.c (numG other)) := fun h => HTW.out.2 _ (fun e => h ((num_iff _ _).1 e))
              clear HTW
              have HNX2 := Lib.hid (fun y hy => HNV.out ▸ HKN.out s2 y hy)
              unfold bi insV at HNX2 HK1
              simp only at HNX2 HK1
              by_cases hq : other / 4 % 16 = pc / 4 % 16
              · clear HQ
                go_wp2_with (first
                  | (go_at_call 10; (have HFIRST := HAF); clear HAF; refine (HCO.out _ _ _ HXA.out).mono ?_; rintro e w5 ⟨rfl, n5, rfl⟩; have HXB := Lib.hid (HXA.out.drewN n5); have HKB := Lib.hid (HKA.out.on (below_drewN' (Below.refl _ _) n5)))
                  | (go_at_call 9; (have HSECOND := HAG); clear HAG; refine (HK1.out _ HOK.out _ HXB.out).mono ?_; rintro e w6 ⟨rfl, hg, hf⟩; have HXC := Lib.hid (HXB.out.put hf (HS1.out ▸ hg)); have HKC := Lib.hid (hf.blk HKB.out (by simp; omega)); clear hg hf)
                  | (go_at_call 9; refine (HK1.out _ HOK1.out _ HXC.out).mono ?_; rintro e w7 ⟨rfl, hg, hf⟩; have HXD := Lib.hid (HXC.out.put hf (HS2.out ▸ hg)); have HKD := Lib.hid (hf.blk HKC.out (by simp; omega)); clear hg hf)
                  | (go_at_call 5; refine (HAL.out _ HXD.out.low).mono ?_; rintro e w8 ⟨rfl, hb⟩; have HXE := Lib.hid (HXD.out.on hb); have HKE := Lib.hid (HKD.out.on hb); clear hb)
                  | (go_at_call 7; refine (HNX2.out _ HXE.out).mono ?_; rintro e w9 ⟨rfl, hb⟩; have HXF := Lib.hid (HXE.out.on hb); clear hb)
                  | (go_at_call 10; refine (HCO.out _ _ _ HXF.out).mono ?_; rintro e w10 ⟨rfl, n10, rfl⟩; have HXG := Lib.hid (HXF.out.drewN n10))
                  | (with_reducible refine Hz.val_arm (o := ⟨some 61, .load _ (.tmp 13), _, _, _, _⟩) (by kernel_rfl) (Hz.ex_load_all 24 (.tmp 13) rfl rfl HKB.out Tryd.underlying24 rfl (by kernel_rfl)) ?_)
                  | (with_reducible refine Hz.val_arm (o := ⟨some 66, .load _ (.tmp 13), _, _, _, _⟩) (by kernel_rfl) (Hz.ex_load_all 24 (.tmp 13) rfl rfl HKC.out Tryd.underlying24 rfl (by kernel_rfl)) ?_)
                  | (with_reducible refine Hz.val_arm (o := ⟨some 73, .load _ (.tmp 13), _, _, _, _⟩) (by kernel_rfl) (Hz.ex_load_all 24 (.tmp 13) rfl rfl HKE.out Tryd.underlying24 rfl (by kernel_rfl)) ?_))
                go_ret
                exact ⟨rfl, HXF.out.low⟩
              · have e5 : (other / 4 % 16 == pc / 4 % 16) = false := by simpa using hq
                have HQ2 := Lib.hid (HQ.out hq)
                clear HQ
                have HCO2 := Lib.hid (fun y hy => HQ2.out ▸ HCO.out s2 g y hy)
                go_wp2_with (first
                  | (go_at_call 10; (have HFIRST := HAF); clear HAF; refine (HCO.out _ _ _ HXA.out).mono ?_; rintro e w5 ⟨rfl, n5, rfl⟩; have HXB := Lib.hid (HXA.out.drewN n5); have HKB := Lib.hid (HKA.out.on (below_drewN' (Below.refl _ _) n5)))
                  | (go_at_call 9; (have HSECOND := HAG); clear HAG; refine (HK1.out _ HOK.out _ HXB.out).mono ?_; rintro e w6 ⟨rfl, hg, hf⟩; have HXC := Lib.hid (HXB.out.put hf (HS1.out ▸ hg)); have HKC := Lib.hid (hf.blk HKB.out (by simp; omega)); clear hg hf)
                  | (go_at_call 9; refine (HK1.out _ HOK1.out _ HXC.out).mono ?_; rintro e w7 ⟨rfl, hg, hf⟩; have HXD := Lib.hid (HXC.out.put hf (HS2.out ▸ hg)); have HKD := Lib.hid (hf.blk HKC.out (by simp; omega)); clear hg hf)
                  | (go_at_call 5; refine (HAL.out _ HXD.out.low).mono ?_; rintro e w8 ⟨rfl, hb⟩; have HXE := Lib.hid (HXD.out.on hb); have HKE := Lib.hid (HKD.out.on hb); clear hb)
                  | (go_at_call 7; refine (HNX2.out _ HXE.out).mono ?_; rintro e w9 ⟨rfl, hb⟩; have HXF := Lib.hid (HXE.out.on hb); clear hb)
                  | (go_at_call 10; refine (HCO2.out _ HXF.out).mono ?_; rintro e w10 ⟨rfl, n10, rfl⟩; have HXG := Lib.hid (HXF.out.drewN n10))
                  | (with_reducible refine Hz.val_arm (o := ⟨some 61, .load _ (.tmp 13), _, _, _, _⟩) (by kernel_rfl) (Hz.ex_load_all 24 (.tmp 13) rfl rfl HKB.out Tryd.underlying24 rfl (by kernel_rfl)) ?_)
                  | (with_reducible refine Hz.val_arm (o := ⟨some 66, .load _ (.tmp 13), _, _, _, _⟩) (by kernel_rfl) (Hz.ex_load_all 24 (.tmp 13) rfl rfl HKC.out Tryd.underlying24 rfl (by kernel_rfl)) ?_)
                  | (with_reducible refine Hz.val_arm (o := ⟨some 73, .load _ (.tmp 13), _, _, _, _⟩) (by kernel_rfl) (Hz.ex_load_all 24 (.tmp 13) rfl rfl HKE.out Tryd.underlying24 rfl (by kernel_rfl)) ?_))
                go_ret
                exact ⟨rfl, HXG.out.low⟩
        · clear hc
          by_cases h4 : imm = 4
          · subst h4
            cases taken with
            | true =>
              have HXA := Lib.hid (HX.out.on (BW.new (Below.refl _ _) (.cells #[.int .i64 6, .int .i64 0, .int .i64 0, .int .i64 0, .int .i64 8, .bool false, .bool false, .int .i64 0, .int .i64 0] 24)))
              have HKA := Lib.hid (Blk.new #[.int .i64 6, .int .i64 0, .int .i64 0, .int .i64 0, .int .i64 8, .bool false, .bool false, .int .i64 0, .int .i64 0] 24 wr)
              have HLT : g < wr.heap.size := Blk.lt HX.out.at0
              have HTW := Lib.hid (twice (HOK.out) 8 pc (IntKind.u64.wrap (pc + IntKind.u64.wrap 8)) (by decide) (.inr rfl))
              have HK1 := Lib.hid (fun s ok y hy => HTR.out s ok g y hy ⟨bi 8, pc, (IntKind.u64.wrap (pc + IntKind.u64.wrap 8))⟩ ⟨i64_6, HP.out⟩)
              have HOK1 := Lib.hid (HOK.out.tr ⟨bi 8, pc, (IntKind.u64.wrap (pc + IntKind.u64.wrap 8))⟩)
              have HKN := Lib.hid (fun s y hy => HNX.out s g y hy 8)
              generalize hs1 : trG s ⟨bi 8, pc, (IntKind.u64.wrap (pc + IntKind.u64.wrap 8))⟩ = s1 at *
              generalize hs2 : trG s1 ⟨bi 8, pc, (IntKind.u64.wrap (pc + IntKind.u64.wrap 8))⟩ = s2 at *
              have HS1 := Lib.hid hs1
              have HS2 := Lib.hid hs2
              clear hs1 hs2
              have HNV : Hid (nxtG s2 (bi 8) pc = (IntKind.u64.wrap (pc + IntKind.u64.wrap 8))) := HTW.out.1
              have HQ : Hid (other / 4 % 16 ≠ pc / 4 % 16 → s2.c (numG other) = s.c (numG other)) := fun h => HTW.out.2 _ (fun e => h ((num_iff _ _).1 e))
              clear HTW
              have HNX2 := Lib.hid (fun y hy => HNV.out ▸ HKN.out s2 y hy)
              unfold bi insV at HNX2 HK1
              simp only at HNX2 HK1
              by_cases hq : other / 4 % 16 = pc / 4 % 16
              · clear HQ
                go_wp2_with (first
                  | (go_at_call 10; (have HFIRST := HAF); clear HAF; refine (HCO.out _ _ _ HXA.out).mono ?_; rintro e w5 ⟨rfl, n5, rfl⟩; have HXB := Lib.hid (HXA.out.drewN n5); have HKB := Lib.hid (HKA.out.on (below_drewN' (Below.refl _ _) n5)))
                  | (go_at_call 9; (have HSECOND := HAG); clear HAG; refine (HK1.out _ HOK.out _ HXB.out).mono ?_; rintro e w6 ⟨rfl, hg, hf⟩; have HXC := Lib.hid (HXB.out.put hf (HS1.out ▸ hg)); have HKC := Lib.hid (hf.blk HKB.out (by simp; omega)); clear hg hf)
                  | (go_at_call 9; refine (HK1.out _ HOK1.out _ HXC.out).mono ?_; rintro e w7 ⟨rfl, hg, hf⟩; have HXD := Lib.hid (HXC.out.put hf (HS2.out ▸ hg)); have HKD := Lib.hid (hf.blk HKC.out (by simp; omega)); clear hg hf)
                  | (go_at_call 5; refine (HAL.out _ HXD.out.low).mono ?_; rintro e w8 ⟨rfl, hb⟩; have HXE := Lib.hid (HXD.out.on hb); have HKE := Lib.hid (HKD.out.on hb); clear hb)
                  | (go_at_call 7; refine (HNX2.out _ HXE.out).mono ?_; rintro e w9 ⟨rfl, hb⟩; have HXF := Lib.hid (HXE.out.on hb); clear hb)
                  | (go_at_call 10; refine (HCO.out _ _ _ HXF.out).mono ?_; rintro e w10 ⟨rfl, n10, rfl⟩; have HXG := Lib.hid (HXF.out.drewN n10))
                  | (with_reducible refine Hz.val_arm (o := ⟨some 61, .load _ (.tmp 13), _, _, _, _⟩) (by kernel_rfl) (Hz.ex_load_all 24 (.tmp 13) rfl rfl HKB.out Tryd.underlying24 rfl (by kernel_rfl)) ?_)
                  | (with_reducible refine Hz.val_arm (o := ⟨some 66, .load _ (.tmp 13), _, _, _, _⟩) (by kernel_rfl) (Hz.ex_load_all 24 (.tmp 13) rfl rfl HKC.out Tryd.underlying24 rfl (by kernel_rfl)) ?_)
                  | (with_reducible refine Hz.val_arm (o := ⟨some 73, .load _ (.tmp 13), _, _, _, _⟩) (by kernel_rfl) (Hz.ex_load_all 24 (.tmp 13) rfl rfl HKE.out Tryd.underlying24 rfl (by kernel_rfl)) ?_))
                go_ret
                exact ⟨rfl, HXF.out.low⟩
              · have e5 : (other / 4 % 16 == pc / 4 % 16) = false := by simpa using hq
                have HQ2 := Lib.hid (HQ.out hq)
                clear HQ
                have HCO2 := Lib.hid (fun y hy => HQ2.out ▸ HCO.out s2 g y hy)
                go_wp2_with (first
                  | (go_at_call 10; (have HFIRST := HAF); clear HAF; refine (HCO.out _ _ _ HXA.out).mono ?_; rintro e w5 ⟨rfl, n5, rfl⟩; have HXB := Lib.hid (HXA.out.drewN n5); have HKB := Lib.hid (HKA.out.on (below_drewN' (Below.refl _ _) n5)))
                  | (go_at_call 9; (have HSECOND := HAG); clear HAG; refine (HK1.out _ HOK.out _ HXB.out).mono ?_; rintro e w6 ⟨rfl, hg, hf⟩; have HXC := Lib.hid (HXB.out.put hf (HS1.out ▸ hg)); have HKC := Lib.hid (hf.blk HKB.out (by simp; omega)); clear hg hf)
                  | (go_at_call 9; refine (HK1.out _ HOK1.out _ HXC.out).mono ?_; rintro e w7 ⟨rfl, hg, hf⟩; have HXD := Lib.hid (HXC.out.put hf (HS2.out ▸ hg)); have HKD := Lib.hid (hf.blk HKC.out (by simp; omega)); clear hg hf)
                  | (go_at_call 5; refine (HAL.out _ HXD.out.low).mono ?_; rintro e w8 ⟨rfl, hb⟩; have HXE := Lib.hid (HXD.out.on hb); have HKE := Lib.hid (HKD.out.on hb); clear hb)
                  | (go_at_call 7; refine (HNX2.out _ HXE.out).mono ?_; rintro e w9 ⟨rfl, hb⟩; have HXF := Lib.hid (HXE.out.on hb); clear hb)
                  | (go_at_call 10; refine (HCO2.out _ HXF.out).mono ?_; rintro e w10 ⟨rfl, n10, rfl⟩; have HXG := Lib.hid (HXF.out.drewN n10))
                  | (with_reducible refine Hz.val_arm (o := ⟨some 61, .load _ (.tmp 13), _, _, _, _⟩) (by kernel_rfl) (Hz.ex_load_all 24 (.tmp 13) rfl rfl HKB.out Tryd.underlying24 rfl (by kernel_rfl)) ?_)
                  | (with_reducible refine Hz.val_arm (o := ⟨some 66, .load _ (.tmp 13), _, _, _, _⟩) (by kernel_rfl) (Hz.ex_load_all 24 (.tmp 13) rfl rfl HKC.out Tryd.underlying24 rfl (by kernel_rfl)) ?_)
                  | (with_reducible refine Hz.val_arm (o := ⟨some 73, .load _ (.tmp 13), _, _, _, _⟩) (by kernel_rfl) (Hz.ex_load_all 24 (.tmp 13) rfl rfl HKE.out Tryd.underlying24 rfl (by kernel_rfl)) ?_))
                go_ret
                exact ⟨rfl, HXG.out.low⟩
            | false =>
              have HXA := Lib.hid (HX.out.on (BW.new (Below.refl _ _) (.cells #[.int .i64 6, .int .i64 0, .int .i64 0, .int .i64 0, .int .i64 8, .bool false, .bool false, .int .i64 0, .int .i64 0] 24)))
              have HKA := Lib.hid (Blk.new #[.int .i64 6, .int .i64 0, .int .i64 0, .int .i64 0, .int .i64 8, .bool false, .bool false, .int .i64 0, .int .i64 0] 24 wr)
              have HLT : g < wr.heap.size := Blk.lt HX.out.at0
              have HTW := Lib.hid (twice (HOK.out) 8 pc (IntKind.u64.wrap (pc + 4)) (by decide) (.inl rfl))
              have HK1 := Lib.hid (fun s ok y hy => HTR.out s ok g y hy ⟨bi 8, pc, (IntKind.u64.wrap (pc + 4))⟩ ⟨i64_6, HP.out⟩)
              have HOK1 := Lib.hid (HOK.out.tr ⟨bi 8, pc, (IntKind.u64.wrap (pc + 4))⟩)
              have HKN := Lib.hid (fun s y hy => HNX.out s g y hy 8)
              generalize hs1 : trG s ⟨bi 8, pc, (IntKind.u64.wrap (pc + 4))⟩ = s1 at *
              generalize hs2 : trG s1 ⟨bi 8, pc, (IntKind.u64.wrap (pc + 4))⟩ = s2 at *
              have HS1 := Lib.hid hs1
              have HS2 := Lib.hid hs2
              clear hs1 hs2
              have HNV : Hid (nxtG s2 (bi 8) pc = (IntKind.u64.wrap (pc + 4))) := HTW.out.1
              have HQ : Hid (other / 4 % 16 ≠ pc / 4 % 16 → s2.c (numG other) = s.c (numG other)) := fun h => HTW.out.2 _ (fun e => h ((num_iff _ _).1 e))
              clear HTW
              have HNX2 := Lib.hid (fun y hy => HNV.out ▸ HKN.out s2 y hy)
              unfold bi insV at HNX2 HK1
              simp only at HNX2 HK1
              by_cases hq : other / 4 % 16 = pc / 4 % 16
              · clear HQ
                go_wp2_with (first
                  | (go_at_call 10; (have HFIRST := HAF); clear HAF; refine (HCO.out _ _ _ HXA.out).mono ?_; rintro e w5 ⟨rfl, n5, rfl⟩; have HXB := Lib.hid (HXA.out.drewN n5); have HKB := Lib.hid (HKA.out.on (below_drewN' (Below.refl _ _) n5)))
                  | (go_at_call 9; (have HSECOND := HAG); clear HAG; refine (HK1.out _ HOK.out _ HXB.out).mono ?_; rintro e w6 ⟨rfl, hg, hf⟩; have HXC := Lib.hid (HXB.out.put hf (HS1.out ▸ hg)); have HKC := Lib.hid (hf.blk HKB.out (by simp; omega)); clear hg hf)
                  | (go_at_call 9; refine (HK1.out _ HOK1.out _ HXC.out).mono ?_; rintro e w7 ⟨rfl, hg, hf⟩; have HXD := Lib.hid (HXC.out.put hf (HS2.out ▸ hg)); have HKD := Lib.hid (hf.blk HKC.out (by simp; omega)); clear hg hf)
                  | (go_at_call 5; refine (HAL.out _ HXD.out.low).mono ?_; rintro e w8 ⟨rfl, hb⟩; have HXE := Lib.hid (HXD.out.on hb); have HKE := Lib.hid (HKD.out.on hb); clear hb)
                  | (go_at_call 7; refine (HNX2.out _ HXE.out).mono ?_; rintro e w9 ⟨rfl, hb⟩; have HXF := Lib.hid (HXE.out.on hb); clear hb)
                  | (go_at_call 10; refine (HCO.out _ _ _ HXF.out).mono ?_; rintro e w10 ⟨rfl, n10, rfl⟩; have HXG := Lib.hid (HXF.out.drewN n10))
                  | (with_reducible refine Hz.val_arm (o := ⟨some 61, .load _ (.tmp 13), _, _, _, _⟩) (by kernel_rfl) (Hz.ex_load_all 24 (.tmp 13) rfl rfl HKB.out Tryd.underlying24 rfl (by kernel_rfl)) ?_)
                  | (with_reducible refine Hz.val_arm (o := ⟨some 66, .load _ (.tmp 13), _, _, _, _⟩) (by kernel_rfl) (Hz.ex_load_all 24 (.tmp 13) rfl rfl HKC.out Tryd.underlying24 rfl (by kernel_rfl)) ?_)
                  | (with_reducible refine Hz.val_arm (o := ⟨some 73, .load _ (.tmp 13), _, _, _, _⟩) (by kernel_rfl) (Hz.ex_load_all 24 (.tmp 13) rfl rfl HKE.out Tryd.underlying24 rfl (by kernel_rfl)) ?_))
                go_ret
                exact ⟨rfl, HXF.out.low⟩
              · have e5 : (other / 4 % 16 == pc / 4 % 16) = false := by simpa using hq
                have HQ2 := Lib.hid (HQ.out hq)
                clear HQ
                have HCO2 := Lib.hid (fun y hy => HQ2.out ▸ HCO.out s2 g y hy)
                go_wp2_with (first
                  | (go_at_call 10; (have HFIRST := HAF); clear HAF; refine (HCO.out _ _ _ HXA.out).mono ?_; rintro e w5 ⟨rfl, n5, rfl⟩; have HXB := Lib.hid (HXA.out.drewN n5); have HKB := Lib.hid (HKA.out.on (below_drewN' (Below.refl _ _) n5)))
                  | (go_at_call 9; (have HSECOND := HAG); clear HAG; refine (HK1.out _ HOK.out _ HXB.out).mono ?_; rintro e w6 ⟨rfl, hg, hf⟩; have HXC := Lib.hid (HXB.out.put hf (HS1.out ▸ hg)); have HKC := Lib.hid (hf.blk HKB.out (by simp; omega)); clear hg hf)
                  | (go_at_call 9; refine (HK1.out _ HOK1.out _ HXC.out).mono ?_; rintro e w7 ⟨rfl, hg, hf⟩; have HXD := Lib.hid (HXC.out.put hf (HS2.out ▸ hg)); have HKD := Lib.hid (hf.blk HKC.out (by simp; omega)); clear hg hf)
                  | (go_at_call 5; refine (HAL.out _ HXD.out.low).mono ?_; rintro e w8 ⟨rfl, hb⟩; have HXE := Lib.hid (HXD.out.on hb); have HKE := Lib.hid (HKD.out.on hb); clear hb)
                  | (go_at_call 7; refine (HNX2.out _ HXE.out).mono ?_; rintro e w9 ⟨rfl, hb⟩; have HXF := Lib.hid (HXE.out.on hb); clear hb)
                  | (go_at_call 10; refine (HCO2.out _ HXF.out).mono ?_; rintro e w10 ⟨rfl, n10, rfl⟩; have HXG := Lib.hid (HXF.out.drewN n10))
                  | (with_reducible refine Hz.val_arm (o := ⟨some 61, .load _ (.tmp 13), _, _, _, _⟩) (by kernel_rfl) (Hz.ex_load_all 24 (.tmp 13) rfl rfl HKB.out Tryd.underlying24 rfl (by kernel_rfl)) ?_)
                  | (with_reducible refine Hz.val_arm (o := ⟨some 66, .load _ (.tmp 13), _, _, _, _⟩) (by kernel_rfl) (Hz.ex_load_all 24 (.tmp 13) rfl rfl HKC.out Tryd.underlying24 rfl (by kernel_rfl)) ?_)
                  | (with_reducible refine Hz.val_arm (o := ⟨some 73, .load _ (.tmp 13), _, _, _, _⟩) (by kernel_rfl) (Hz.ex_load_all 24 (.tmp 13) rfl rfl HKE.out Tryd.underlying24 rfl (by kernel_rfl)) ?_))
                go_ret
                exact ⟨rfl, HXG.out.low⟩
          · have e4 : (imm == 4) = false := by simpa using h4
            have H4 := Lib.hid h4
            cases taken with
            | true =>
              have HXA := Lib.hid (HX.out.on (BW.new (Below.refl _ _) (.cells #[.int .i64 6, .int .i64 0, .int .i64 0, .int .i64 0, .int .i64 imm, .bool false, .bool false, .int .i64 0, .int .i64 0] 24)))
              have HKA := Lib.hid (Blk.new #[.int .i64 6, .int .i64 0, .int .i64 0, .int .i64 0, .int .i64 imm, .bool false, .bool false, .int .i64 0, .int .i64 0] 24 wr)
              have HLT : g < wr.heap.size := Blk.lt HX.out.at0
              have HTW := Lib.hid (twice (HOK.out) imm pc (IntKind.u64.wrap (pc + IntKind.u64.wrap imm)) H4.out (.inr rfl))
              have HK1 := Lib.hid (fun s ok y hy => HTR.out s ok g y hy ⟨bi imm, pc, (IntKind.u64.wrap (pc + IntKind.u64.wrap imm))⟩ ⟨i64_6, HP.out⟩)
              have HOK1 := Lib.hid (HOK.out.tr ⟨bi imm, pc, (IntKind.u64.wrap (pc + IntKind.u64.wrap imm))⟩)
              have HKN := Lib.hid (fun s y hy => HNX.out s g y hy imm)
              generalize hs1 : trG s ⟨bi imm, pc, (IntKind.u64.wrap (pc + IntKind.u64.wrap imm))⟩ = s1 at *
              generalize hs2 : trG s1 ⟨bi imm, pc, (IntKind.u64.wrap (pc + IntKind.u64.wrap imm))⟩ = s2 at *
              have HS1 := Lib.hid hs1
              have HS2 := Lib.hid hs2
              clear hs1 hs2
              have HNV : Hid (nxtG s2 (bi imm) pc = (IntKind.u64.wrap (pc + IntKind.u64.wrap imm))) := HTW.out.1
              have HQ : Hid (other / 4 % 16 ≠ pc / 4 % 16 → s2.c (numG other) = s.c (numG other)) := fun h => HTW.out.2 _ (fun e => h ((num_iff _ _).1 e))
              clear HTW
              have HNX2 := Lib.hid (fun y hy => HNV.out ▸ HKN.out s2 y hy)
              unfold bi insV at HNX2 HK1
              simp only at HNX2 HK1
              by_cases hq : other / 4 % 16 = pc / 4 % 16
              · clear HQ
                go_wp2_with (first
                  | (go_at_call 10; (have HFIRST := HAF); clear HAF; refine (HCO.out _ _ _ HXA.out).mono ?_; rintro e w5 ⟨rfl, n5, rfl⟩; have HXB := Lib.hid (HXA.out.drewN n5); have HKB := Lib.hid (HKA.out.on (below_drewN' (Below.refl _ _) n5)))
                  | (go_at_call 9; (have HSECOND := HAG); clear HAG; refine (HK1.out _ HOK.out _ HXB.out).mono ?_; rintro e w6 ⟨rfl, hg, hf⟩; have HXC := Lib.hid (HXB.out.put hf (HS1.out ▸ hg)); have HKC := Lib.hid (hf.blk HKB.out (by simp; omega)); clear hg hf)
                  | (go_at_call 9; refine (HK1.out _ HOK1.out _ HXC.out).mono ?_; rintro e w7 ⟨rfl, hg, hf⟩; have HXD := Lib.hid (HXC.out.put hf (HS2.out ▸ hg)); have HKD := Lib.hid (hf.blk HKC.out (by simp; omega)); clear hg hf)
                  | (go_at_call 5; refine (HAL.out _ HXD.out.low).mono ?_; rintro e w8 ⟨rfl, hb⟩; have HXE := Lib.hid (HXD.out.on hb); have HKE := Lib.hid (HKD.out.on hb); clear hb)
                  | (go_at_call 7; refine (HNX2.out _ HXE.out).mono ?_; rintro e w9 ⟨rfl, hb⟩; have HXF := Lib.hid (HXE.out.on hb); clear hb)
                  | (go_at_call 10; refine (HCO.out _ _ _ HXF.out).mono ?_; rintro e w10 ⟨rfl, n10, rfl⟩; have HXG := Lib.hid (HXF.out.drewN n10))
                  | (with_reducible refine Hz.val_arm (o := ⟨some 61, .load _ (.tmp 13), _, _, _, _⟩) (by kernel_rfl) (Hz.ex_load_all 24 (.tmp 13) rfl rfl HKB.out Tryd.underlying24 rfl (by kernel_rfl)) ?_)
                  | (with_reducible refine Hz.val_arm (o := ⟨some 66, .load _ (.tmp 13), _, _, _, _⟩) (by kernel_rfl) (Hz.ex_load_all 24 (.tmp 13) rfl rfl HKC.out Tryd.underlying24 rfl (by kernel_rfl)) ?_)
                  | (with_reducible refine Hz.val_arm (o := ⟨some 73, .load _ (.tmp 13), _, _, _, _⟩) (by kernel_rfl) (Hz.ex_load_all 24 (.tmp 13) rfl rfl HKE.out Tryd.underlying24 rfl (by kernel_rfl)) ?_))
                go_ret
                exact ⟨rfl, HXF.out.low⟩
              · have e5 : (other / 4 % 16 == pc / 4 % 16) = false := by simpa using hq
                have HQ2 := Lib.hid (HQ.out hq)
                clear HQ
                have HCO2 := Lib.hid (fun y hy => HQ2.out ▸ HCO.out s2 g y hy)
                go_wp2_with (first
                  | (go_at_call 10; (have HFIRST := HAF); clear HAF; refine (HCO.out _ _ _ HXA.out).mono ?_; rintro e w5 ⟨rfl, n5, rfl⟩; have HXB := Lib.hid (HXA.out.drewN n5); have HKB := Lib.hid (HKA.out.on (below_drewN' (Below.refl _ _) n5)))
                  | (go_at_call 9; (have HSECOND := HAG); clear HAG; refine (HK1.out _ HOK.out _ HXB.out).mono ?_; rintro e w6 ⟨rfl, hg, hf⟩; have HXC := Lib.hid (HXB.out.put hf (HS1.out ▸ hg)); have HKC := Lib.hid (hf.blk HKB.out (by simp; omega)); clear hg hf)
                  | (go_at_call 9; refine (HK1.out _ HOK1.out _ HXC.out).mono ?_; rintro e w7 ⟨rfl, hg, hf⟩; have HXD := Lib.hid (HXC.out.put hf (HS2.out ▸ hg)); have HKD := Lib.hid (hf.blk HKC.out (by simp; omega)); clear hg hf)
                  | (go_at_call 5; refine (HAL.out _ HXD.out.low).mono ?_; rintro e w8 ⟨rfl, hb⟩; have HXE := Lib.hid (HXD.out.on hb); have HKE := Lib.hid (HKD.out.on hb); clear hb)
                  | (go_at_call 7; refine (HNX2.out _ HXE.out).mono ?_; rintro e w9 ⟨rfl, hb⟩; have HXF := Lib.hid (HXE.out.on hb); clear hb)
                  | (go_at_call 10; refine (HCO2.out _ HXF.out).mono ?_; rintro e w10 ⟨rfl, n10, rfl⟩; have HXG := Lib.hid (HXF.out.drewN n10))
                  | (with_reducible refine Hz.val_arm (o := ⟨some 61, .load _ (.tmp 13), _, _, _, _⟩) (by kernel_rfl) (Hz.ex_load_all 24 (.tmp 13) rfl rfl HKB.out Tryd.underlying24 rfl (by kernel_rfl)) ?_)
                  | (with_reducible refine Hz.val_arm (o := ⟨some 66, .load _ (.tmp 13), _, _, _, _⟩) (by kernel_rfl) (Hz.ex_load_all 24 (.tmp 13) rfl rfl HKC.out Tryd.underlying24 rfl (by kernel_rfl)) ?_)
                  | (with_reducible refine Hz.val_arm (o := ⟨some 73, .load _ (.tmp 13), _, _, _, _⟩) (by kernel_rfl) (Hz.ex_load_all 24 (.tmp 13) rfl rfl HKE.out Tryd.underlying24 rfl (by kernel_rfl)) ?_))
                go_ret
                exact ⟨rfl, HXG.out.low⟩
            | false =>
              have HXA := Lib.hid (HX.out.on (BW.new (Below.refl _ _) (.cells #[.int .i64 6, .int .i64 0, .int .i64 0, .int .i64 0, .int .i64 imm, .bool false, .bool false, .int .i64 0, .int .i64 0] 24)))
              have HKA := Lib.hid (Blk.new #[.int .i64 6, .int .i64 0, .int .i64 0, .int .i64 0, .int .i64 imm, .bool false, .bool false, .int .i64 0, .int .i64 0] 24 wr)
              have HLT : g < wr.heap.size := Blk.lt HX.out.at0
              have HTW := Lib.hid (twice (HOK.out) imm pc (IntKind.u64.wrap (pc + 4)) H4.out (.inl rfl))
              have HK1 := Lib.hid (fun s ok y hy => HTR.out s ok g y hy ⟨bi imm, pc, (IntKind.u64.wrap (pc + 4))⟩ ⟨i64_6, HP.out⟩)
              have HOK1 := Lib.hid (HOK.out.tr ⟨bi imm, pc, (IntKind.u64.wrap (pc + 4))⟩)
              have HKN := Lib.hid (fun s y hy => HNX.out s g y hy imm)
              generalize hs1 : trG s ⟨bi imm, pc, (IntKind.u64.wrap (pc + 4))⟩ = s1 at *
              generalize hs2 : trG s1 ⟨bi imm, pc, (IntKind.u64.wrap (pc + 4))⟩ = s2 at *
              have HS1 := Lib.hid hs1
              have HS2 := Lib.hid hs2
              clear hs1 hs2
              have HNV : Hid (nxtG s2 (bi imm) pc = (IntKind.u64.wrap (pc + 4))) := HTW.out.1
              have HQ : Hid (other / 4 % 16 ≠ pc / 4 % 16 → s2.c (numG other) = s.c (numG other)) := fun h => HTW.out.2 _ (fun e => h ((num_iff _ _).1 e))
              clear HTW
              have HNX2 := Lib.hid (fun y hy => HNV.out ▸ HKN.out s2 y hy)
              unfold bi insV at HNX2 HK1
              simp only at HNX2 HK1
              by_cases hq : other / 4 % 16 = pc / 4 % 16
              · clear HQ
                go_wp2_with (first
                  | (go_at_call 10; (have HFIRST := HAF); clear HAF; refine (HCO.out _ _ _ HXA.out).mono ?_; rintro e w5 ⟨rfl, n5, rfl⟩; have HXB := Lib.hid (HXA.out.drewN n5); have HKB := Lib.hid (HKA.out.on (below_drewN' (Below.refl _ _) n5)))
                  | (go_at_call 9; (have HSECOND := HAG); clear HAG; refine (HK1.out _ HOK.out _ HXB.out).mono ?_; rintro e w6 ⟨rfl, hg, hf⟩; have HXC := Lib.hid (HXB.out.put hf (HS1.out ▸ hg)); have HKC := Lib.hid (hf.blk HKB.out (by simp; omega)); clear hg hf)
                  | (go_at_call 9; refine (HK1.out _ HOK1.out _ HXC.out).mono ?_; rintro e w7 ⟨rfl, hg, hf⟩; have HXD := Lib.hid (HXC.out.put hf (HS2.out ▸ hg)); have HKD := Lib.hid (hf.blk HKC.out (by simp; omega)); clear hg hf)
                  | (go_at_call 5; refine (HAL.out _ HXD.out.low).mono ?_; rintro e w8 ⟨rfl, hb⟩; have HXE := Lib.hid (HXD.out.on hb); have HKE := Lib.hid (HKD.out.on hb); clear hb)
                  | (go_at_call 7; refine (HNX2.out _ HXE.out).mono ?_; rintro e w9 ⟨rfl, hb⟩; have HXF := Lib.hid (HXE.out.on hb); clear hb)
                  | (go_at_call 10; refine (HCO.out _ _ _ HXF.out).mono ?_; rintro e w10 ⟨rfl, n10, rfl⟩; have HXG := Lib.hid (HXF.out.drewN n10))
                  | (with_reducible refine Hz.val_arm (o := ⟨some 61, .load _ (.tmp 13), _, _, _, _⟩) (by kernel_rfl) (Hz.ex_load_all 24 (.tmp 13) rfl rfl HKB.out Tryd.underlying24 rfl (by kernel_rfl)) ?_)
                  | (with_reducible refine Hz.val_arm (o := ⟨some 66, .load _ (.tmp 13), _, _, _, _⟩) (by kernel_rfl) (Hz.ex_load_all 24 (.tmp 13) rfl rfl HKC.out Tryd.underlying24 rfl (by kernel_rfl)) ?_)
                  | (with_reducible refine Hz.val_arm (o := ⟨some 73, .load _ (.tmp 13), _, _, _, _⟩) (by kernel_rfl) (Hz.ex_load_all 24 (.tmp 13) rfl rfl HKE.out Tryd.underlying24 rfl (by kernel_rfl)) ?_))
                go_ret
                exact ⟨rfl, HXF.out.low⟩
              · have e5 : (other / 4 % 16 == pc / 4 % 16) = false := by simpa using hq
                have HQ2 := Lib.hid (HQ.out hq)
                clear HQ
                have HCO2 := Lib.hid (fun y hy => HQ2.out ▸ HCO.out s2 g y hy)
                go_wp2_with (first
                  | (go_at_call 10; (have HFIRST := HAF); clear HAF; refine (HCO.out _ _ _ HXA.out).mono ?_; rintro e w5 ⟨rfl, n5, rfl⟩; have HXB := Lib.hid (HXA.out.drewN n5); have HKB := Lib.hid (HKA.out.on (below_drewN' (Below.refl _ _) n5)))
                  | (go_at_call 9; (have HSECOND := HAG); clear HAG; refine (HK1.out _ HOK.out _ HXB.out).mono ?_; rintro e w6 ⟨rfl, hg, hf⟩; have HXC := Lib.hid (HXB.out.put hf (HS1.out ▸ hg)); have HKC := Lib.hid (hf.blk HKB.out (by simp; omega)); clear hg hf)
                  | (go_at_call 9; refine (HK1.out _ HOK1.out _ HXC.out).mono ?_; rintro e w7 ⟨rfl, hg, hf⟩; have HXD := Lib.hid (HXC.out.put hf (HS2.out ▸ hg)); have HKD := Lib.hid (hf.blk HKC.out (by simp; omega)); clear hg hf)
                  | (go_at_call 5; refine (HAL.out _ HXD.out.low).mono ?_; rintro e w8 ⟨rfl, hb⟩; have HXE := Lib.hid (HXD.out.on hb); have HKE := Lib.hid (HKD.out.on hb); clear hb)
                  | (go_at_call 7; refine (HNX2.out _ HXE.out).mono ?_; rintro e w9 ⟨rfl, hb⟩; have HXF := Lib.hid (HXE.out.on hb); clear hb)
                  | (go_at_call 10; refine (HCO2.out _ HXF.out).mono ?_; rintro e w10 ⟨rfl, n10, rfl⟩; have HXG := Lib.hid (HXF.out.drewN n10))
                  | (with_reducible refine Hz.val_arm (o := ⟨some 61, .load _ (.tmp 13), _, _, _, _⟩) (by kernel_rfl) (Hz.ex_load_all 24 (.tmp 13) rfl rfl HKB.out Tryd.underlying24 rfl (by kernel_rfl)) ?_)
                  | (with_reducible refine Hz.val_arm (o := ⟨some 66, .load _ (.tmp 13), _, _, _, _⟩) (by kernel_rfl) (Hz.ex_load_all 24 (.tmp 13) rfl rfl HKC.out Tryd.underlying24 rfl (by kernel_rfl)) ?_)
                  | (with_reducible refine Hz.val_arm (o := ⟨some 73, .load _ (.tmp 13), _, _, _, _⟩) (by kernel_rfl) (Hz.ex_load_all 24 (.tmp 13) rfl rfl HKE.out Tryd.underlying24 rfl (by kernel_rfl)) ?_))
                go_ret
                exact ⟨rfl, HXG.out.low⟩
end Go.Proofs.YtdcmpmmbmjaaiaaDoor
