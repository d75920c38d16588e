/- Of stage 11. -/
import Derived.Test.YtmamblgpekafbaaGreatDoorRgpa
import Derived.Test.YtmamblgpekafbaaGreatDoorDepa
import Derived.StillTailTactics
set_option maxRecDepth 100000
set_option maxHeartbeats 8000000
namespace Go.Proofs.YtmamblgpekafbaaGreatDoor
open Go.RowKit
structure Tab7 (w : World) : Prop where
  dec : Tab6 w
theorem Tab7.below {W w : World} (h : Tab7 W) (hb : Below W.heap.size W w) : Tab7 w := ⟨h.dec.below hb⟩
def fsV (op s : Int) : Int := if op = 3 then 5 else if op = 4 then 1 else if s = 1 then 4 else if s = 3 then 3 else if s = 4 ∨ s = 6 then 1 else if s = 5 then 2 else 0
theorem fs_all : ∀ k : Fin 75, shV ((k.val : Int) + 1) = 0 → fmV ((k.val : Int) + 1) = fsV ((k.val : Int) + 1) (srt ((k.val : Int) + 1)) := by decide +kernel
theorem zM3 {l : List Int} {op : Int} (h : ¬ (1 ≤ op ∧ op ≤ 75)) : tabI l op = 0 := if_neg h
theorem fs_any {op : Int} (h : shV op = 0) : fmV op = fsV op (srt op) := by
  by_cases hr : 1 ≤ op ∧ op ≤ 75
  · have := fs_all ⟨op.toNat - 1, by omega⟩
    simp only [show ((op.toNat - 1 : Nat) : Int) + 1 = op by omega] at this
    exact this h
  · have hs := zd0 op
    have e : srt op = 0 := by omega
    unfold fmV
    rw [zM3 hr, e]
    unfold fsV
    rw [if_neg (by omega), if_neg (by omega), if_neg (by decide), if_neg (by decide), if_neg (by decide), if_neg (by decide)]
theorem Zj6 (op : Int) (ho : I64 op) (h : shV op = 0) (w : World) (hT : TabL w) :
    Calls Tryz.prog 132 #[.int .i64 op] w fun e w' => e = .returned (.int .i64 (fmV op)) ∧ w = w' := by
  have KS := fun w hT => zh2 op ho w hT
  have HV := Lib.hid (fs_any h)
  clear h
  by_cases h3 : op = 3
  · subst h3
    have HX : Hid (fmV 3 = 5) := by show _ = _; decide
    go_enter Tryz.func132, Tryz.ntmps132
    go_wp2
    go_ret
    exact ⟨za1 HX.out.symm, rfl⟩
  by_cases h4 : op = 4
  · subst h4
    have HX : Hid (fmV 4 = 1) := by show _ = _; decide
    go_enter Tryz.func132, Tryz.ntmps132
    go_wp2
    go_ret
    exact ⟨za1 HX.out.symm, rfl⟩
  have b3 : (op == 3) = false := by simpa using h3
  have b4 : (op == 4) = false := by simpa using h4
  have HX : Hid (fmV op = if srt op = 1 then 4 else if srt op = 3 then 3 else if srt op = 4 ∨ srt op = 6 then 1 else if srt op = 5 then 2 else 0) := by
    show _ = _; rw [HV.out]; unfold fsV; rw [if_neg h3, if_neg h4]
  clear HV h3 h4 ho
  have hc : srt op = 1 ∨ srt op = 3 ∨ srt op = 4 ∨ srt op = 6 ∨ srt op = 5 ∨ (srt op ≠ 1 ∧ srt op ≠ 3 ∧ srt op ≠ 4 ∧ srt op ≠ 6 ∧ srt op ≠ 5) := by omega
  rcases hc with hc | hc | hc | hc | hc | ⟨n1, n3, n4, n6, n5⟩
  case inr.inr.inr.inr.inr =>
    have HY : Hid (fmV op = 0) := by show _ = _; rw [HX.out, if_neg n1, if_neg n3, if_neg (by omega), if_neg n5]
    have c1 : (srt op == 1) = false := by simpa using n1
    have c3 : (srt op == 3) = false := by simpa using n3
    have c4 : (srt op == 4) = false := by simpa using n4
    have c6 : (srt op == 6) = false := by simpa using n6
    have c5 : (srt op == 5) = false := by simpa using n5
    clear HX n1 n3 n4 n6 n5
    generalize srt op = s at *
    go_enter Tryz.func132, Tryz.ntmps132
    go_wp2_with (first
      | (go_at_call 15; refine (KS _ hT).mono ?_; rintro e w' ⟨rfl, rfl⟩))
    go_ret
    exact ⟨za1 HY.out.symm, rfl⟩
  all_goals
    have HY := Lib.hid HX.out
    rw [hc] at KS HY
    clear HX hc
    go_enter Tryz.func132, Tryz.ntmps132
    go_wp2_with (first
      | (go_at_call 15; refine (KS _ hT).mono ?_; rintro e w' ⟨rfl, rfl⟩))
    go_ret
    exact ⟨za1 (HY.out.trans (by decide)).symm, rfl⟩
theorem zy3 {a c : Int} {b d : Bool} (h : a = c) (g : b = d) : Ending.returned (.tuple #[.int .u32 a, .bool b]) = .returned (.tuple #[.int .u32 c, .bool d]) := by rw [h, g]
def shB (last by' : Int) : Bool := decide (0 ≤ by' ∧ by' ≤ last)
def shW (last x : Int) : Int := if shB last x then x * 1048576 else 0
theorem Zc7 (x last : Int) (hl : last = 63 ∨ last = 31) (w : World) :
    Calls Tryz.prog 131 #[.int .i64 x, .int .i64 last] w fun e w' => e = .returned (.tuple #[.int .u32 (shW last x), .bool (shB last x)]) ∧ w = w' := by
  by_cases h : 0 ≤ x ∧ x ≤ last
  · have HS : Hid (shB last x = true) := decide_eq_true h
    have HW : Hid (shW last x = x * 1048576) := by show _ = _; unfold shW; rw [HS.out]; rfl
    have HA := fun w => at_c 20 1048576 x (by omega) (by omega) (by omega) w
    have h0 := h.1
    have h1 := h.2
    clear h hl
    go_enter Tryz.func131, Tryz.ntmps131
    go_wp2_with (first
      | (go_at_call 97; refine (HA _).mono ?_; rintro e w' ⟨rfl, rfl⟩))
    go_ret2
    exact ⟨zy3 HW.out.symm HS.out.symm, rfl⟩
  · have HS : Hid (shB last x = false) := decide_eq_false h
    have HW : Hid (shW last x = 0) := by show _ = _; unfold shW; rw [HS.out]; rfl
    by_cases h0 : 0 ≤ x
    · have h1 : last < x := by omega
      clear h hl
      go_enter Tryz.func131, Tryz.ntmps131
      go_wp2
      go_ret2
      exact ⟨zy3 HW.out.symm HS.out.symm, rfl⟩
    · have h0 : x < 0 := by omega
      clear h hl
      go_enter Tryz.func131, Tryz.ntmps131
      go_wp2
      go_ret2
      exact ⟨zy3 HW.out.symm HS.out.symm, rfl⟩
def imB (op imm : Int) : Bool := decide (P3 ⟨op, 0, 0, 0, imm, false, false, 0, 0⟩)
theorem imB_P3 (i : Ins) : imB i.op i.imm = decide (P3 i) := rfl
theorem shx_all : ∀ k : Fin 75, shV ((k.val : Int) + 1) = (if (k.val : Int) + 1 = 28 ∨ (k.val : Int) + 1 = 29 ∨ (k.val : Int) + 1 = 30 then 6 else if (k.val : Int) + 1 = 32 ∨ (k.val : Int) + 1 = 33 ∨ (k.val : Int) + 1 = 34 then 5 else 0) := by decide +kernel
theorem shx_any (op : Int) : shV op = (if op = 28 ∨ op = 29 ∨ op = 30 then 6 else if op = 32 ∨ op = 33 ∨ op = 34 then 5 else 0) := by
  by_cases hr : 1 ≤ op ∧ op ≤ 75
  · have := shx_all ⟨op.toNat - 1, by omega⟩
    simp only [show ((op.toNat - 1 : Nat) : Int) + 1 = op by omega] at this
    exact this
  · unfold shV
    rw [zM3 hr, if_neg (by omega), if_neg (by omega)]
theorem imB_sh6 {op imm : Int} (h : shV op = 6) (hf : fmV op = 0) : imB op imm = shB 63 imm := by
  unfold imB shB P3
  simp [h, hf]
theorem imB_sh5 {op imm : Int} (h : shV op = 5) (hf : fmV op = 0) : imB op imm = shB 31 imm := by
  unfold imB shB P3
  simp [h, hf]
theorem imB_non {op imm : Int} (h : shV op = 0) (hf : fmV op = 0) : imB op imm = decide (imm = 0) := by
  unfold imB P3
  simp [h, hf]
theorem imB_may {op imm : Int} (h : shV op = 0) (hf : 0 < fmV op) : imB op imm = mayB (fmV op) imm := by
  have hz : ¬ fmV op = 0 := by omega
  unfold imB P3 mayB
  simp [h, hz, hf]
theorem Ze8 {op imm : Int} (h : 0 < shV op) : immW op imm = imm * 1048576 := by unfold immW; rw [if_pos h]
theorem immW_non {op imm : Int} (h : shV op = 0) (hf : fmV op = 0) : immW op imm = 0 := by unfold immW; rw [h, hf]; rfl
theorem immW_may {op imm : Int} (h : shV op = 0) (hf : 0 < fmV op) : immW op imm = putK (fmV op) (imm % 18446744073709551616) 32 := by unfold immW; rw [h, if_neg (by decide), if_pos hf]
def imW (op imm : Int) : Int := if imB op imm then immW op imm else 0
theorem imme_c (op imm : Int) (ho : I64 op) (w : World) (T : Tab6 w) :
    Calls Tryz.prog 94 #[.int .i64 op, .int .i64 imm] w fun e w' => e = .returned (.tuple #[.int .u32 (imW op imm), .bool (imB op imm)]) ∧ Below w.heap.size w w' := by
  have hsh := shx_any op
  by_cases h6 : op = 28 ∨ op = 29 ∨ op = 30
  · rw [if_pos h6] at hsh
    have hf : fmV op = 0 := by rcases h6 with rfl | rfl | rfl <;> decide
    have HK := fun w => Zc7 imm 63 (by decide) w
    have HB := Lib.hid (imB_sh6 (imm := imm) hsh hf)
    have HW : Hid (imW op imm = shW 63 imm) := by show _ = _; unfold imW shW; rw [HB.out, Ze8 (by rw [hsh]; decide)]
    clear hsh hf ho T
    generalize shB 63 imm = b at *
    generalize shW 63 imm = v at *
    rcases h6 with rfl | rfl | rfl
    all_goals
      go_enter Tryz.func94, Tryz.ntmps94
      go_wp2_with (first
        | (go_at_call 131; refine (HK _).mono ?_; rintro e w' ⟨rfl, rfl⟩))
      go_ret2
      exact ⟨zy3 HW.out.symm HB.out.symm, Below.refl _ _⟩
  by_cases h5 : op = 32 ∨ op = 33 ∨ op = 34
  · rw [if_neg h6, if_pos h5] at hsh
    have hf : fmV op = 0 := by rcases h5 with rfl | rfl | rfl <;> decide
    have HK := fun w => Zc7 imm 31 (by decide) w
    have HB := Lib.hid (imB_sh5 (imm := imm) hsh hf)
    have HW : Hid (imW op imm = shW 31 imm) := by show _ = _; unfold imW shW; rw [HB.out, Ze8 (by rw [hsh]; decide)]
    clear hsh hf ho T h6
    generalize shB 31 imm = b at *
    generalize shW 31 imm = v at *
    rcases h5 with rfl | rfl | rfl
    all_goals
      go_enter Tryz.func94, Tryz.ntmps94
      go_wp2_with (first
        | (go_at_call 131; refine (HK _).mono ?_; rintro e w' ⟨rfl, rfl⟩))
      go_ret2
      exact ⟨zy3 HW.out.symm HB.out.symm, Below.refl _ _⟩
  rw [if_neg h6, if_neg h5] at hsh
  have HF := fun w hT => Zj6 op ho hsh w hT
  have b1 : (op == 28) = false := by simp; omega
  have b2 : (op == 29) = false := by simp; omega
  have b3 : (op == 30) = false := by simp; omega
  have b4 : (op == 32) = false := by simp; omega
  have b5 : (op == 33) = false := by simp; omega
  have b6 : (op == 34) = false := by simp; omega
  have hL := T.lasts
  clear h6 h5 ho
  by_cases hf : fmV op = 0
  · have HB := Lib.hid (imB_non (imm := imm) hsh hf)
    have HW : Hid (imW op imm = 0) := by show _ = _; unfold imW; rw [immW_non hsh hf]; split <;> rfl
    rw [hf] at HF
    clear hsh hf T
    go_enter Tryz.func94, Tryz.ntmps94
    go_wp2_with (first
      | (go_at_call 132; refine (HF _ hL).mono ?_; rintro e w' ⟨rfl, rfl⟩))
    go_ret2
    exact ⟨zy3 HW.out.symm (by rw [HB.out]; rfl), Below.refl _ _⟩
  · have hp : 0 < fmV op := by
      by_cases hr : 1 ≤ op ∧ op ≤ 75
      · have := zG1 hr; omega
      · exact absurd (zM3 hr) hf
    have HB := Lib.hid (imB_may (imm := imm) hsh hp)
    have HW : Hid (imW op imm = putV (fmV op) imm) := by show _ = _; unfold imW putV; rw [HB.out, immW_may hsh hp]
    have KP := fun w hT => put_c (fmV op) imm w hT
    have hy := T.lay
    have bz : (fmV op == 0) = false := by simpa using hf
    clear hsh hf hp T
    generalize putV (fmV op) imm = pv at *
    generalize mayB (fmV op) imm = mb at *
    generalize fmV op = f at *
    go_enter Tryz.func94, Tryz.ntmps94
    go_wp2_with (first
      | (go_at_call 132; refine (HF _ hL).mono ?_; rintro e w' ⟨rfl, rfl⟩)
      | (go_at_call 133; refine (KP _ hy).mono ?_; rintro e w' ⟨rfl, hq⟩))
    go_ret2
    exact ⟨zy3 HW.out.symm HB.out.symm, hq⟩
end Go.Proofs.YtmamblgpekafbaaGreatDoor
namespace Go.Proofs.YtmamblgpekafbaaGreatDoor
open Go.RowKit
theorem zs2 (i : Ins) (w : World) : Jn w i w.heap.size (w.alloc (.cells (za0 i) 39)) := ⟨BW.new (Below.refl _ _) _, Blk.new _ _ _, Nat.le_refl _⟩
def rngB (i : Ins) : Bool := decide (0 ≤ i.rd ∧ i.rd ≤ 31 ∧ 0 ≤ i.rs1 ∧ i.rs1 ≤ 31 ∧ 0 ≤ i.rs2 ∧ i.rs2 ≤ 31)
def zO2 (i : Ins) : Bool := rngB i && eqB (clnI i) i
def annB (i : Ins) : Bool := decide (10 ≤ srt i.op ∨ (i.aq = false ∧ i.rl = false))
def setB (i : Ins) : Bool := decide (P4 i)
theorem regs_c (i : Ins) (ho : I64 i.op) (w : World) (T : Tab6 w) :
    Calls Tryz.prog 128 #[insV i] w fun e w' => e = .returned (.bool (zO2 i)) ∧ Below w.heap.size w w' := by
  have HJ0 := zs2 i w
  have KC := fun g x (h : Jn w i g x) => (zC3 i ho x (T.below h.1)).mono fun e w' hh => (⟨hh.1, h.on hh.2, (h.on hh.2).cells⟩ : e = .returned (insV (clnI i)) ∧ Jn w i g w' ∧ _)
  have HE := fun w => zL8 (clnI i) i w
  have HV : Hid (zO2 i = (rngB i && eqB (clnI i) i)) := rfl
  have HRG : Hid (rngB i = decide (0 ≤ i.rd ∧ i.rd ≤ 31 ∧ 0 ≤ i.rs1 ∧ i.rs1 ≤ 31 ∧ 0 ≤ i.rs2 ∧ i.rs2 ≤ 31)) := rfl
  generalize zO2 i = rb at *
  generalize rngB i = gb at *
  generalize eqB (clnI i) i = eb at *
  generalize clnI i = z at *
  obtain ⟨op, rd, rs1, rs2, imm, aq, rl, pred, succ⟩ := i
  obtain ⟨z0, z1, z2, z3, z4, z5, z6, z7, z8⟩ := z
  unfold insV za0 at *
  simp only at HJ0 KC HE HV HRG ⊢
  go_enter Tryz.func128, Tryz.ntmps128
  go_upto_region 1 with (fail)
  generalize w.alloc (.cells _ 39) = w1 at *
  obtain ⟨g, hg⟩ : ∃ g, w.heap.size = g := ⟨_, rfl⟩
  have HJ : Jn w ⟨op, rd, rs1, rs2, imm, aq, rl, pred, succ⟩ g w1 := by rw [← hg]; exact HJ0
  rw [hg]
  have HBW := HJ.1
  clear hg HJ0
  obtain ⟨c0, c1, c2, c3, c4, c5, c6, c7, c8⟩ := HJ.cells
  simp only at c0 c1 c2 c3 c4 c5 c6 c7 c8
  have ix0 : ∀ w : World, (Instr.index 165 (.agg #[.int .i64 rd, .int .i64 rs1, .int .i64 rs2]) (.int .i64 0)).run Tryz.prog w = .ok (.int .i64 rd) w := fun _ => by kernel_rfl
  have ix1 : ∀ w : World, (Instr.index 165 (.agg #[.int .i64 rd, .int .i64 rs1, .int .i64 rs2]) (.int .i64 1)).run Tryz.prog w = .ok (.int .i64 rs1) w := fun _ => by kernel_rfl
  have ix2 : ∀ w : World, (Instr.index 165 (.agg #[.int .i64 rd, .int .i64 rs1, .int .i64 rs2]) (.int .i64 2)).run Tryz.prog w = .ok (.int .i64 rs2) w := fun _ => by kernel_rfl
  go_wp2
  go_loop [4, 12] (fun _ v12 => ∃ k : Int, 0 ≤ k ∧ k ≤ 3 ∧ v12 = .int .i64 k ∧ Hid ((0 < k → 0 ≤ rd ∧ rd ≤ 31) ∧ (1 < k → 0 ≤ rs1 ∧ rs1 ≤ 31) ∧ (2 < k → 0 ≤ rs2 ∧ rs2 ≤ 31))) (fun _ v12 => (3 - intOf v12).toNat)
  case atStart => exact ⟨0, by omega, by omega, rfl, (show Hid _ from ⟨by omega, by omega, by omega⟩)⟩
  case round =>
    obtain ⟨k, k0, k1, rfl, HK⟩ := hrel
    have hk : k = 0 ∨ k = 1 ∨ k = 2 ∨ k = 3 := by omega
    clear k0 k1
    rcases hk with rfl | rfl | rfl | rfl
    · by_cases h0 : 0 ≤ rd
      · by_cases h1 : rd ≤ 31
        · go_wp2
          go_round
          case rel => exact ⟨1, by omega, by omega, rfl, (show Hid _ from ⟨fun _ => ⟨h0, h1⟩, by omega, by omega⟩)⟩
          case measure => simp [intOf]
        · have hx : Hid (gb = false) := by show _ = _; rw [HRG.out]; exact decide_eq_false (by omega)
          have h1 : 31 < rd := by omega
          go_wp2
          go_ret
          exact ⟨zb0 (by rw [HV.out, hx.out]; rfl), HBW⟩
      · have hx : Hid (gb = false) := by show _ = _; rw [HRG.out]; exact decide_eq_false (by omega)
        have h1 : rd < 0 := by omega
        clear h0
        go_wp2
        go_ret
        exact ⟨zb0 (by rw [HV.out, hx.out]; rfl), HBW⟩
    · by_cases h0 : 0 ≤ rs1
      · by_cases h1 : rs1 ≤ 31
        · go_wp2
          go_round
          case rel => exact ⟨2, by omega, by omega, rfl, (show Hid _ from ⟨fun _ => HK.out.1 (by omega), fun _ => ⟨h0, h1⟩, by omega⟩)⟩
          case measure => simp [intOf]
        · have hx : Hid (gb = false) := by show _ = _; rw [HRG.out]; exact decide_eq_false (by omega)
          have h1 : 31 < rs1 := by omega
          go_wp2
          go_ret
          exact ⟨zb0 (by rw [HV.out, hx.out]; rfl), HBW⟩
      · have hx : Hid (gb = false) := by show _ = _; rw [HRG.out]; exact decide_eq_false (by omega)
        have h1 : rs1 < 0 := by omega
        clear h0
        go_wp2
        go_ret
        exact ⟨zb0 (by rw [HV.out, hx.out]; rfl), HBW⟩
    · by_cases h0 : 0 ≤ rs2
      · by_cases h1 : rs2 ≤ 31
        · go_wp2
          go_round
          case rel => exact ⟨3, by omega, by omega, rfl, (show Hid _ from ⟨fun _ => HK.out.1 (by omega), fun _ => HK.out.2.1 (by omega), fun _ => ⟨h0, h1⟩⟩)⟩
          case measure => simp [intOf]
        · have hx : Hid (gb = false) := by show _ = _; rw [HRG.out]; exact decide_eq_false (by omega)
          have h1 : 31 < rs2 := by omega
          go_wp2
          go_ret
          exact ⟨zb0 (by rw [HV.out, hx.out]; rfl), HBW⟩
      · have hx : Hid (gb = false) := by show _ = _; rw [HRG.out]; exact decide_eq_false (by omega)
        have h1 : rs2 < 0 := by omega
        clear h0
        go_wp2
        go_ret
        exact ⟨zb0 (by rw [HV.out, hx.out]; rfl), HBW⟩
    · have hx : Hid (gb = true) := by
        show _ = _; rw [HRG.out]
        have a := HK.out.1 (by omega)
        have b := HK.out.2.1 (by omega)
        have c := HK.out.2.2 (by omega)
        exact decide_eq_true ⟨a.1, a.2, b.1, b.2, c.1, c.2⟩
      clear HK ix0 ix1 ix2 HRG
      go_wp2
      go_region_held3 (fun w' => Jn w ⟨op, rd, rs1, rs2, imm, aq, rl, pred, succ⟩ g w' ∧ w'.cell? ⟨g, 0, none⟩ = some (.int .i64 op) ∧ w'.cell? ⟨g, 1, none⟩ = some (.int .i64 rd) ∧ w'.cell? ⟨g, 2, none⟩ = some (.int .i64 rs1) ∧ w'.cell? ⟨g, 3, none⟩ = some (.int .i64 rs2) ∧ w'.cell? ⟨g, 4, none⟩ = some (.int .i64 imm) ∧ w'.cell? ⟨g, 5, none⟩ = some (.bool aq) ∧ w'.cell? ⟨g, 6, none⟩ = some (.bool rl) ∧ w'.cell? ⟨g, 7, none⟩ = some (.int .i64 pred) ∧ w'.cell? ⟨g, 8, none⟩ = some (.int .i64 succ))
        (first | (exact ⟨by assumption, by assumption, by assumption, by assumption, by assumption, by assumption, by assumption, by assumption, by assumption, by assumption⟩) | (exact ⟨Jn.drew (by assumption), by assumption, by assumption, by assumption, by assumption, by assumption, by assumption, by assumption, by assumption, by assumption⟩) | (refine ⟨?_, ?_, ?_, ?_, ?_, ?_, ?_, ?_, ?_, ?_⟩ <;> go_keep))
        (first
          | (go_at_call 105; refine (KC g _ ?_).mono ?_; (first | assumption | exact Jn.drew (by assumption)); rintro e w' ⟨rfl, hJ2, b0, b1, b2, b3, b4, b5, b6, b7, b8⟩))
      all_goals go_wp2
      all_goals go_ret
      all_goals refine ⟨zb0 (by rw [HV.out, hx.out]; rfl), ?_⟩
      all_goals exact (by assumption : Jn w ⟨op, rd, rs1, rs2, imm, aq, rl, pred, succ⟩ g _).1
theorem ann_c (i : Ins) (ho : I64 i.op) (w : World) (T : Tab6 w) :
    Calls Tryz.prog 129 #[insV i] w fun e w' => e = .returned (.bool (annB i)) ∧ Below w.heap.size w w' := by
  have HJ0 := zs2 i w
  have KS := fun x (h : TabL x) => zh2 i.op ho x h
  have HV : Hid (annB i = decide (10 ≤ srt i.op ∨ (i.aq = false ∧ i.rl = false))) := rfl
  have HT := T.lasts.below HJ0.1
  generalize annB i = rb at *
  obtain ⟨op, rd, rs1, rs2, imm, aq, rl, pred, succ⟩ := i
  unfold insV za0 at *
  simp only at HJ0 KS HV HT ⊢
  generalize srt op = s at *
  by_cases hs : 10 ≤ s
  all_goals
    cases aq
    all_goals
      cases rl
      all_goals
        have HS := Lib.hid hs
        go_enter Tryz.func129, Tryz.ntmps129
        go_upto_region 1 with (fail)
        generalize w.alloc (.cells _ 39) = w1 at *
        obtain ⟨g, hg⟩ : ∃ g, w.heap.size = g := ⟨_, rfl⟩
        have HJ := HJ0
        rw [hg] at HJ ⊢
        have HBW := HJ.1
        clear hg HJ0
        obtain ⟨c0, c1, c2, c3, c4, c5, c6, c7, c8⟩ := HJ.cells
        simp only at c0 c1 c2 c3 c4 c5 c6 c7 c8
        go_wp2_with (first
          | (go_at_call 15; refine (KS _ HT).mono ?_; rintro e w' ⟨rfl, rfl⟩))
        go_ret
        exact ⟨zb0 (by rw [HV.out]; have := HS.out; simp [this]), HBW⟩
theorem set_c (i : Ins) (w : World) :
    Calls Tryz.prog 130 #[insV i] w fun e w' => e = .returned (.bool (setB i)) ∧ Below w.heap.size w w' := by
  have HJ0 := zs2 i w
  have HV : Hid (setB i = decide (P4 i)) := rfl
  generalize setB i = rb at *
  obtain ⟨op, rd, rs1, rs2, imm, aq, rl, pred, succ⟩ := i
  unfold insV za0 at *
  simp only at HJ0 HV ⊢
  obtain ⟨lo, hi, hlo⟩ : ∃ lo hi : Int, (op = 50 ∧ lo = 0 ∧ hi = 15) ∨ (op = 51 ∧ lo = 3 ∧ hi = 3) ∨ (op ≠ 50 ∧ op ≠ 51 ∧ lo = 0 ∧ hi = 0) := by
    by_cases h : op = 50
    · exact ⟨0, 15, .inl ⟨h, rfl, rfl⟩⟩
    · by_cases h' : op = 51
      · exact ⟨3, 3, .inr (.inl ⟨h', rfl, rfl⟩)⟩
      · exact ⟨0, 0, .inr (.inr ⟨h, h', rfl, rfl⟩)⟩
  have HW : Hid (rb = decide (lo ≤ pred ∧ pred ≤ hi ∧ lo ≤ succ ∧ succ ≤ hi)) := by
    show _ = _
    rw [HV.out, decide_eq_decide]
    unfold P4
    simp only
    rcases hlo with ⟨rfl, rfl, rfl⟩ | ⟨rfl, rfl, rfl⟩ | ⟨h, h', rfl, rfl⟩
    · rw [if_pos rfl]; omega
    · rw [if_neg (by decide), if_pos rfl]; omega
    · rw [if_neg h, if_neg h']; omega
  clear HV
  have hc : pred < lo ∨ (lo ≤ pred ∧ hi < pred) ∨ (lo ≤ pred ∧ pred ≤ hi ∧ succ < lo) ∨ (lo ≤ pred ∧ pred ≤ hi ∧ lo ≤ succ ∧ hi < succ) ∨ (lo ≤ pred ∧ pred ≤ hi ∧ lo ≤ succ ∧ succ ≤ hi) := by omega
  rcases hlo with ⟨rfl, rfl, rfl⟩ | ⟨rfl, rfl, rfl⟩ | ⟨h, h', rfl, rfl⟩
  case inr.inr =>
    have b0 : (op == 50) = false := by simpa using h
    have b1 : (op == 51) = false := by simpa using h'
    clear h h'
    rcases hc with ha | ⟨ha, hb⟩ | ⟨ha, hb, hc⟩ | ⟨ha, hb, hc, hd⟩ | ⟨ha, hb, hc, hd⟩
    all_goals
      first | (have HX : Hid (rb = false) := by show _ = _; rw [HW.out]; exact decide_eq_false (by omega)) | (have HX : Hid (rb = true) := by show _ = _; rw [HW.out]; exact decide_eq_true (by omega))
      clear HW
      go_enter Tryz.func130, Tryz.ntmps130
      go_upto_region 1 with (fail)
      generalize w.alloc (.cells _ 39) = w1 at *
      obtain ⟨g, hg⟩ : ∃ g, w.heap.size = g := ⟨_, rfl⟩
      have HJ : Jn w ⟨op, rd, rs1, rs2, imm, aq, rl, pred, succ⟩ g w1 := by rw [← hg]; exact HJ0
      rw [hg]
      have HBW := HJ.1
      clear hg HJ0
      obtain ⟨c0, c1, c2, c3, c4, c5, c6, c7, c8⟩ := HJ.cells
      simp only at c0 c1 c2 c3 c4 c5 c6 c7 c8
      go_wp2
      go_ret
      exact ⟨zb0 (Eq.trans (by first | rfl | exact decide_eq_false (by omega) | exact decide_eq_true (by omega)) HX.out.symm), HBW⟩
  all_goals
    rcases hc with ha | ⟨ha, hb⟩ | ⟨ha, hb, hc⟩ | ⟨ha, hb, hc, hd⟩ | ⟨ha, hb, hc, hd⟩
    all_goals
      first | (have HX : Hid (rb = false) := by show _ = _; rw [HW.out]; exact decide_eq_false (by omega)) | (have HX : Hid (rb = true) := by show _ = _; rw [HW.out]; exact decide_eq_true (by omega))
      clear HW
      go_enter Tryz.func130, Tryz.ntmps130
      go_upto_region 1 with (fail)
      generalize w.alloc (.cells _ 39) = w1 at *
      obtain ⟨g, hg⟩ : ∃ g, w.heap.size = g := ⟨_, rfl⟩
      have HJ := HJ0
      rw [hg] at HJ ⊢
      have HBW := HJ.1
      clear hg HJ0
      obtain ⟨c0, c1, c2, c3, c4, c5, c6, c7, c8⟩ := HJ.cells
      simp only at c0 c1 c2 c3 c4 c5 c6 c7 c8
      go_wp2
      go_ret
      exact ⟨zb0 (Eq.trans (by first | rfl | exact decide_eq_false (by omega) | exact decide_eq_true (by omega)) HX.out.symm), HBW⟩
theorem eqB_cln (i : Ins) : eqB (clnI i) i = decide ((wrB i.op = true ∨ i.rd = 0) ∧ (firB i.op = true ∨ i.rs1 = 0) ∧ (secB i.op = true ∨ i.rs2 = 0)) := by
  rw [Bool.eq_iff_iff, Zi7, decide_eq_true_eq]
  obtain ⟨op, rd, rs1, rs2, imm, aq, rl, pred, succ⟩ := i
  unfold clnI
  simp only [Ins.mk.injEq, true_and, and_true]
  constructor
  · rintro ⟨h1, h2, h3⟩
    refine ⟨?_, ?_, ?_⟩
    · cases h : wrB op
      · rw [h] at h1; exact .inr h1.symm
      · exact .inl rfl
    · cases h : firB op
      · rw [h] at h2; exact .inr h2.symm
      · exact .inl rfl
    · cases h : secB op
      · rw [h] at h3; exact .inr h3.symm
      · exact .inl rfl
  · rintro ⟨h1, h2, h3⟩
    refine ⟨?_, ?_, ?_⟩
    · rcases h1 with h | h
      · rw [h]; rfl
      · rw [h]; split <;> rfl
    · rcases h2 with h | h
      · rw [h]; rfl
      · rw [h]; split <;> rfl
    · rcases h3 with h | h
      · rw [h]; rfl
      · rw [h]; split <;> rfl
theorem zG6 (i : Ins) : rgtB i = (imB i.op i.imm && (decide (srt i.op ≠ 0) && (zO2 i && (annB i && setB i)))) := by
  rw [imB_P3]
  unfold rgtB zO2 rngB annB setB
  rw [eqB_cln, Bool.eq_iff_iff]
  simp only [Bool.and_eq_true, decide_eq_true_eq]
  unfold P1 P2
  constructor
  · rintro ⟨⟨⟨⟨a0, a1⟩, ⟨b1, b2, b3, b4⟩⟩, c⟩, d⟩
    exact ⟨c, a0, ⟨a1, b1, b2, b3⟩, b4, d⟩
  · rintro ⟨c, a0, ⟨a1, b1, b2, b3⟩, b4, d⟩
    exact ⟨⟨⟨⟨a0, a1⟩, ⟨b1, b2, b3, b4⟩⟩, c⟩, d⟩
theorem zM7 (i : Ins) (ho : I64 i.op) (w : World) (T : Tab6 w) :
    Calls Tryz.prog 93 #[insV i] w fun e w' => e = .returned (.bool (rgtB i)) ∧ Below w.heap.size w w' := by
  have HJ0 := zs2 i w
  have KI := fun g x (h : Jn w i g x) => (imme_c i.op i.imm ho x (T.below h.1)).mono fun e w' hh => (⟨hh.1, h.on hh.2⟩ : _ ∧ Jn w i g w')
  have KS := fun g x (h : Jn w i g x) => zh2 i.op ho x (T.lasts.below h.1)
  have KR := fun g x (h : Jn w i g x) => (regs_c i ho x (T.below h.1)).mono fun e w' hh => (⟨hh.1, h.on hh.2⟩ : _ ∧ Jn w i g w')
  have KA := fun g x (h : Jn w i g x) => (ann_c i ho x (T.below h.1)).mono fun e w' hh => (⟨hh.1, h.on hh.2⟩ : _ ∧ Jn w i g w')
  have KT := fun g x (h : Jn w i g x) => (set_c i x).mono fun e w' hh => (⟨hh.1, h.on hh.2⟩ : _ ∧ Jn w i g w')
  have HV : Hid (rgtB i = (imB i.op i.imm && (decide (srt i.op ≠ 0) && (zO2 i && (annB i && setB i))))) := zG6 i
  generalize rgtB i = r at *
  generalize imW i.op i.imm = iw at *
  generalize zO2 i = b3 at *
  generalize annB i = b4 at *
  generalize setB i = b5 at *
  obtain ⟨s, hs⟩ : ∃ s, srt i.op = s := ⟨_, rfl⟩
  have HB2 : Hid (decide (srt i.op ≠ 0) = (s != 0)) := by show _ = _; rw [hs]; rw [Bool.eq_iff_iff]; simp
  rw [HB2.out] at HV
  rw [hs] at KS
  clear HB2 hs T
  cases hb1 : imB i.op i.imm
  case false =>
    rw [hb1] at KI HV
    clear hb1 KS KR KA KT
    obtain ⟨op, rd, rs1, rs2, imm, aq, rl, pred, succ⟩ := i
    unfold insV za0 at *
    simp only at HJ0 KI HV ⊢
    go_enter Tryz.func93, Tryz.ntmps93
    go_upto_region 1 with (fail)
    generalize w.alloc (.cells _ 39) = w1 at *
    obtain ⟨g, hg⟩ : ∃ g, w.heap.size = g := ⟨_, rfl⟩
    have HJ : Jn w ⟨op, rd, rs1, rs2, imm, aq, rl, pred, succ⟩ g w1 := by rw [← hg]; exact HJ0
    rw [hg]
    clear hg HJ0
    obtain ⟨c0, c1, c2, c3, c4, c5, c6, c7, c8⟩ := HJ.cells
    simp only at c0 c1 c2 c3 c4 c5 c6 c7 c8
    go_wp2_with (first
      | (go_at_call 94; refine (KI g _ HJ).mono ?_; rintro e w2 ⟨rfl, HJ2⟩))
    go_ret
    exact ⟨zb0 (by rw [HV.out]; rfl), HJ2.1⟩
  case true =>
    rw [hb1] at KI HV
    clear hb1
    obtain ⟨op, rd, rs1, rs2, imm, aq, rl, pred, succ⟩ := i
    unfold insV za0 at *
    simp only at HJ0 KI KS KR KA KT HV ⊢
    have hcs : (s != 0) = false ∨ ((s != 0) = true ∧ b3 = false) ∨ ((s != 0) = true ∧ b3 = true ∧ b4 = false) ∨ ((s != 0) = true ∧ b3 = true ∧ b4 = true) := by
      cases (s != 0) <;> cases b3 <;> cases b4 <;> simp
    rcases hcs with h1 | ⟨h1, rfl⟩ | ⟨h1, rfl, rfl⟩ | ⟨h1, rfl, rfl⟩
    all_goals
      have HV2 := HV.out
      rw [h1] at HV2
      clear HV
      have HV := Lib.hid HV2
      clear HV2
      go_enter Tryz.func93, Tryz.ntmps93
      go_upto_region 1 with (fail)
      generalize w.alloc (.cells _ 39) = w1 at *
      obtain ⟨g, hg⟩ : ∃ g, w.heap.size = g := ⟨_, rfl⟩
      have HJ : Jn w ⟨op, rd, rs1, rs2, imm, aq, rl, pred, succ⟩ g w1 := by rw [← hg]; exact HJ0
      rw [hg]
      clear hg HJ0
      obtain ⟨c0, c1, c2, c3, c4, c5, c6, c7, c8⟩ := HJ.cells
      simp only at c0 c1 c2 c3 c4 c5 c6 c7 c8
      go_wp2_with (first
        | (go_at_call 94; refine (KI g _ HJ).mono ?_; rintro e w2 ⟨rfl, HJ2⟩; clear c0 c1 c2 c3 c4 c5 c6 c7 c8 HJ; have HJ := HJ2; clear HJ2; obtain ⟨c0, c1, c2, c3, c4, c5, c6, c7, c8⟩ := HJ.cells; simp only at c0 c1 c2 c3 c4 c5 c6 c7 c8)
        | (go_at_call 15; refine (KS g _ HJ).mono ?_; rintro e w2 ⟨rfl, rfl⟩)
        | (go_at_call 128; refine (KR g _ HJ).mono ?_; rintro e w2 ⟨rfl, HJ2⟩; clear c0 c1 c2 c3 c4 c5 c6 c7 c8 HJ; have HJ := HJ2; clear HJ2; obtain ⟨c0, c1, c2, c3, c4, c5, c6, c7, c8⟩ := HJ.cells; simp only at c0 c1 c2 c3 c4 c5 c6 c7 c8)
        | (go_at_call 129; refine (KA g _ HJ).mono ?_; rintro e w2 ⟨rfl, HJ2⟩; clear c0 c1 c2 c3 c4 c5 c6 c7 c8 HJ; have HJ := HJ2; clear HJ2; obtain ⟨c0, c1, c2, c3, c4, c5, c6, c7, c8⟩ := HJ.cells; simp only at c0 c1 c2 c3 c4 c5 c6 c7 c8)
        | (go_at_call 130; refine (KT g _ HJ).mono ?_; rintro e w2 ⟨rfl, HJ2⟩; clear c0 c1 c2 c3 c4 c5 c6 c7 c8 HJ; have HJ := HJ2; clear HJ2; obtain ⟨c0, c1, c2, c3, c4, c5, c6, c7, c8⟩ := HJ.cells; simp only at c0 c1 c2 c3 c4 c5 c6 c7 c8))
      go_ret
      exact ⟨zb0 (by rw [HV.out]; rfl), HJ.1⟩
end Go.Proofs.YtmamblgpekafbaaGreatDoor
namespace Go.Proofs.YtmamblgpekafbaaGreatDoor
open Go.RowKit
def lenV (n : Int) : Int := if n = 0 then 0 else if n = 1 then 1 else if n = 2 then 2 else 3
theorem len64_c (n : Int) (h : n = 0 ∨ n = 1 ∨ n = 2 ∨ n = 4) (w : World) :
    Calls Tryz.prog 169 #[.int .u64 n] w fun e w' => e = .returned (.int .i64 (lenV n)) ∧ w = w' := by
  rcases h with rfl | rfl | rfl | rfl
  all_goals
    go_enter Tryz.func169, Tryz.ntmps169
    go_wp2
    go_ret
    exact ⟨za1 (by kernel_rfl), rfl⟩
theorem zP5 (n : Int) (h : n = 0 ∨ n = 1 ∨ n = 2 ∨ n = 4) (w : World) :
    Calls Tryz.prog 134 #[.int .u64 n] w fun e w' => e = .returned (.int .i64 (lenV n)) ∧ w = w' := by
  have KL := fun w => len64_c n h w
  rcases h with rfl | rfl | rfl | rfl
  all_goals
    go_enter Tryz.func134, Tryz.ntmps134
    go_wp2_with (first
      | (go_at_call 169; refine (KL _).mono ?_; rintro e w' ⟨rfl, rfl⟩))
    go_ret
    exact ⟨rfl, rfl⟩
theorem zZ7 (op : Int) (h : op = 1 ∨ op = 2 ∨ op = 3 ∨ op = 4 ∨ op = 5 ∨ op = 6 ∨ op = 7 ∨ op = 8 ∨ op = 9 ∨ op = 10 ∨ op = 22 ∨ op = 23 ∨ op = 24 ∨ op = 25 ∨ op = 26) (w : World) (hT : TabL w) :
    Calls Tryz.prog 98 #[.int .i64 op] w fun e w' => e = .returned (.int .i64 (thV op)) ∧ w = w' := by
  have KS : ∀ s, siz op = s → Calls Tryz.prog 31 #[.int .i64 op] w fun e w' => e = .returned (.int .i64 s) ∧ w = w' := by
    rintro s rfl; exact zm5 op ⟨by omega, by omega⟩ w hT
  have KL := zP5 0 (by decide) w
  rw [show lenV 0 = 0 by decide] at KL
  clear hT
  rcases h with rfl | rfl | rfl | rfl | rfl | rfl | rfl | rfl | rfl | rfl | rfl | rfl | rfl | rfl | rfl
  all_goals
    have KS' := KS 0 (by decide)
    clear KS
    go_enter Tryz.func98, Tryz.ntmps98
    go_wp2_with (first
      | (go_at_call 31; refine KS'.mono ?_; rintro e w' ⟨rfl, rfl⟩)
      | (go_at_call 134; refine KL.mono ?_; rintro e w' ⟨rfl, rfl⟩))
    go_ret
    exact ⟨za1 (by decide), rfl⟩
theorem Za7 (op : Int) (h : op = 27 ∨ op = 28 ∨ op = 29 ∨ op = 30 ∨ op = 31 ∨ op = 32 ∨ op = 33 ∨ op = 34 ∨ op = 35 ∨ op = 36 ∨ op = 37 ∨ op = 38 ∨ op = 39 ∨ op = 40 ∨ op = 41) (w : World) (hT : TabL w) :
    Calls Tryz.prog 98 #[.int .i64 op] w fun e w' => e = .returned (.int .i64 (thV op)) ∧ w = w' := by
  have KS : ∀ s, siz op = s → Calls Tryz.prog 31 #[.int .i64 op] w fun e w' => e = .returned (.int .i64 s) ∧ w = w' := by
    rintro s rfl; exact zm5 op ⟨by omega, by omega⟩ w hT
  have KL := zP5 0 (by decide) w
  rw [show lenV 0 = 0 by decide] at KL
  clear hT
  rcases h with rfl | rfl | rfl | rfl | rfl | rfl | rfl | rfl | rfl | rfl | rfl | rfl | rfl | rfl | rfl
  all_goals
    have KS' := KS 0 (by decide)
    clear KS
    go_enter Tryz.func98, Tryz.ntmps98
    go_wp2_with (first
      | (go_at_call 31; refine KS'.mono ?_; rintro e w' ⟨rfl, rfl⟩)
      | (go_at_call 134; refine KL.mono ?_; rintro e w' ⟨rfl, rfl⟩))
    go_ret
    exact ⟨za1 (by decide), rfl⟩
theorem zW9 (op : Int) (h : op = 42 ∨ op = 43 ∨ op = 44 ∨ op = 45 ∨ op = 46 ∨ op = 47 ∨ op = 48 ∨ op = 49 ∨ op = 50 ∨ op = 51 ∨ op = 52 ∨ op = 53) (w : World) (hT : TabL w) :
    Calls Tryz.prog 98 #[.int .i64 op] w fun e w' => e = .returned (.int .i64 (thV op)) ∧ w = w' := by
  have KS : ∀ s, siz op = s → Calls Tryz.prog 31 #[.int .i64 op] w fun e w' => e = .returned (.int .i64 s) ∧ w = w' := by
    rintro s rfl; exact zm5 op ⟨by omega, by omega⟩ w hT
  have KL := zP5 0 (by decide) w
  rw [show lenV 0 = 0 by decide] at KL
  clear hT
  rcases h with rfl | rfl | rfl | rfl | rfl | rfl | rfl | rfl | rfl | rfl | rfl | rfl
  all_goals
    have KS' := KS 0 (by decide)
    clear KS
    go_enter Tryz.func98, Tryz.ntmps98
    go_wp2_with (first
      | (go_at_call 31; refine KS'.mono ?_; rintro e w' ⟨rfl, rfl⟩)
      | (go_at_call 134; refine KL.mono ?_; rintro e w' ⟨rfl, rfl⟩))
    go_ret
    exact ⟨za1 (by decide), rfl⟩
theorem zW2 (op : Int) (h : op = 11 ∨ op = 15 ∨ op = 18) (w : World) (hT : TabL w) :
    Calls Tryz.prog 98 #[.int .i64 op] w fun e w' => e = .returned (.int .i64 (thV op)) ∧ w = w' := by
  have KS : ∀ s, siz op = s → Calls Tryz.prog 31 #[.int .i64 op] w fun e w' => e = .returned (.int .i64 s) ∧ w = w' := by
    rintro s rfl; exact zm5 op ⟨by omega, by omega⟩ w hT
  have KL := zP5 0 (by decide) w
  rw [show lenV 0 = 0 by decide] at KL
  clear hT
  rcases h with rfl | rfl | rfl
  all_goals
    have KS' := KS 1 (by decide)
    clear KS
    go_enter Tryz.func98, Tryz.ntmps98
    go_wp2_with (first
      | (go_at_call 31; refine KS'.mono ?_; rintro e w' ⟨rfl, rfl⟩)
      | (go_at_call 134; refine KL.mono ?_; rintro e w' ⟨rfl, rfl⟩))
    go_ret
    exact ⟨za1 (by decide), rfl⟩
theorem zV7 (op : Int) (h : op = 12 ∨ op = 16 ∨ op = 19) (w : World) (hT : TabL w) :
    Calls Tryz.prog 98 #[.int .i64 op] w fun e w' => e = .returned (.int .i64 (thV op)) ∧ w = w' := by
  have KS : ∀ s, siz op = s → Calls Tryz.prog 31 #[.int .i64 op] w fun e w' => e = .returned (.int .i64 s) ∧ w = w' := by
    rintro s rfl; exact zm5 op ⟨by omega, by omega⟩ w hT
  have KL := zP5 1 (by decide) w
  rw [show lenV 1 = 1 by decide] at KL
  clear hT
  rcases h with rfl | rfl | rfl
  all_goals
    have KS' := KS 2 (by decide)
    clear KS
    go_enter Tryz.func98, Tryz.ntmps98
    go_wp2_with (first
      | (go_at_call 31; refine KS'.mono ?_; rintro e w' ⟨rfl, rfl⟩)
      | (go_at_call 134; refine KL.mono ?_; rintro e w' ⟨rfl, rfl⟩))
    go_ret
    exact ⟨za1 (by decide), rfl⟩
theorem zX9 (op : Int) (h : op = 13 ∨ op = 17 ∨ op = 20 ∨ op = 54 ∨ op = 56 ∨ op = 58 ∨ op = 59 ∨ op = 60 ∨ op = 61 ∨ op = 62 ∨ op = 63 ∨ op = 64 ∨ op = 65 ∨ op = 66) (w : World) (hT : TabL w) :
    Calls Tryz.prog 98 #[.int .i64 op] w fun e w' => e = .returned (.int .i64 (thV op)) ∧ w = w' := by
  have KS : ∀ s, siz op = s → Calls Tryz.prog 31 #[.int .i64 op] w fun e w' => e = .returned (.int .i64 s) ∧ w = w' := by
    rintro s rfl; exact zm5 op ⟨by omega, by omega⟩ w hT
  have KL := zP5 2 (by decide) w
  rw [show lenV 2 = 2 by decide] at KL
  clear hT
  rcases h with rfl | rfl | rfl | rfl | rfl | rfl | rfl | rfl | rfl | rfl | rfl | rfl | rfl | rfl
  all_goals
    have KS' := KS 4 (by decide)
    clear KS
    go_enter Tryz.func98, Tryz.ntmps98
    go_wp2_with (first
      | (go_at_call 31; refine KS'.mono ?_; rintro e w' ⟨rfl, rfl⟩)
      | (go_at_call 134; refine KL.mono ?_; rintro e w' ⟨rfl, rfl⟩))
    go_ret
    exact ⟨za1 (by decide), rfl⟩
theorem zX6 (op : Int) (h : op = 14 ∨ op = 21 ∨ op = 55 ∨ op = 57 ∨ op = 67 ∨ op = 68 ∨ op = 69 ∨ op = 70 ∨ op = 71 ∨ op = 72 ∨ op = 73 ∨ op = 74 ∨ op = 75) (w : World) (hT : TabL w) :
    Calls Tryz.prog 98 #[.int .i64 op] w fun e w' => e = .returned (.int .i64 (thV op)) ∧ w = w' := by
  have KS : ∀ s, siz op = s → Calls Tryz.prog 31 #[.int .i64 op] w fun e w' => e = .returned (.int .i64 s) ∧ w = w' := by
    rintro s rfl; exact zm5 op ⟨by omega, by omega⟩ w hT
  have KL := zP5 4 (by decide) w
  rw [show lenV 4 = 3 by decide] at KL
  clear hT
  rcases h with rfl | rfl | rfl | rfl | rfl | rfl | rfl | rfl | rfl | rfl | rfl | rfl | rfl
  all_goals
    have KS' := KS 8 (by decide)
    clear KS
    go_enter Tryz.func98, Tryz.ntmps98
    go_wp2_with (first
      | (go_at_call 31; refine KS'.mono ?_; rintro e w' ⟨rfl, rfl⟩)
      | (go_at_call 134; refine KL.mono ?_; rintro e w' ⟨rfl, rfl⟩))
    go_ret
    exact ⟨za1 (by decide), rfl⟩
theorem third7_c (op : Int) (h : 1 ≤ op ∧ op ≤ 75) (w : World) (hT : TabL w) :
    Calls Tryz.prog 98 #[.int .i64 op] w fun e w' => e = .returned (.int .i64 (thV op)) ∧ w = w' := by
  by_cases h0 : op = 1 ∨ op = 2 ∨ op = 3 ∨ op = 4 ∨ op = 5 ∨ op = 6 ∨ op = 7 ∨ op = 8 ∨ op = 9 ∨ op = 10 ∨ op = 22 ∨ op = 23 ∨ op = 24 ∨ op = 25 ∨ op = 26
  · exact zZ7 op h0 w hT
  by_cases h1 : op = 27 ∨ op = 28 ∨ op = 29 ∨ op = 30 ∨ op = 31 ∨ op = 32 ∨ op = 33 ∨ op = 34 ∨ op = 35 ∨ op = 36 ∨ op = 37 ∨ op = 38 ∨ op = 39 ∨ op = 40 ∨ op = 41
  · exact Za7 op h1 w hT
  by_cases h2 : op = 42 ∨ op = 43 ∨ op = 44 ∨ op = 45 ∨ op = 46 ∨ op = 47 ∨ op = 48 ∨ op = 49 ∨ op = 50 ∨ op = 51 ∨ op = 52 ∨ op = 53
  · exact zW9 op h2 w hT
  by_cases h3 : op = 11 ∨ op = 15 ∨ op = 18
  · exact zW2 op h3 w hT
  by_cases h4 : op = 12 ∨ op = 16 ∨ op = 19
  · exact zV7 op h4 w hT
  by_cases h5 : op = 13 ∨ op = 17 ∨ op = 20 ∨ op = 54 ∨ op = 56 ∨ op = 58 ∨ op = 59 ∨ op = 60 ∨ op = 61 ∨ op = 62 ∨ op = 63 ∨ op = 64 ∨ op = 65 ∨ op = 66
  · exact zX9 op h5 w hT
  exact zX6 op (by omega) w hT
theorem upper7_0 (op : Int) (h : op = 1 ∨ op = 2 ∨ op = 3 ∨ op = 4 ∨ op = 5 ∨ op = 6 ∨ op = 7 ∨ op = 8 ∨ op = 9 ∨ op = 10 ∨ op = 11 ∨ op = 12 ∨ op = 13 ∨ op = 14 ∨ op = 15) (w : World) :
    Calls Tryz.prog 99 #[.int .i64 op] w fun e w' => e = .returned (.int .i64 (upV op)) ∧ w = w' := by
  rcases h with rfl | rfl | rfl | rfl | rfl | rfl | rfl | rfl | rfl | rfl | rfl | rfl | rfl | rfl | rfl
  all_goals
    go_enter Tryz.func99, Tryz.ntmps99
    go_wp2
    go_ret
    exact ⟨za1 (by decide), rfl⟩
theorem upper7_1 (op : Int) (h : op = 16 ∨ op = 17 ∨ op = 18 ∨ op = 19 ∨ op = 20 ∨ op = 21 ∨ op = 22 ∨ op = 23 ∨ op = 24 ∨ op = 25 ∨ op = 26 ∨ op = 27 ∨ op = 28 ∨ op = 29 ∨ op = 30) (w : World) :
    Calls Tryz.prog 99 #[.int .i64 op] w fun e w' => e = .returned (.int .i64 (upV op)) ∧ w = w' := by
  rcases h with rfl | rfl | rfl | rfl | rfl | rfl | rfl | rfl | rfl | rfl | rfl | rfl | rfl | rfl | rfl
  all_goals
    go_enter Tryz.func99, Tryz.ntmps99
    go_wp2
    go_ret
    exact ⟨za1 (by decide), rfl⟩
theorem upper7_2 (op : Int) (h : op = 31 ∨ op = 32 ∨ op = 33 ∨ op = 34 ∨ op = 35 ∨ op = 36 ∨ op = 37 ∨ op = 38 ∨ op = 39 ∨ op = 40 ∨ op = 41 ∨ op = 42 ∨ op = 43 ∨ op = 44 ∨ op = 45) (w : World) :
    Calls Tryz.prog 99 #[.int .i64 op] w fun e w' => e = .returned (.int .i64 (upV op)) ∧ w = w' := by
  rcases h with rfl | rfl | rfl | rfl | rfl | rfl | rfl | rfl | rfl | rfl | rfl | rfl | rfl | rfl | rfl
  all_goals
    go_enter Tryz.func99, Tryz.ntmps99
    go_wp2
    go_ret
    exact ⟨za1 (by decide), rfl⟩
theorem upper7_3 (op : Int) (h : op = 46 ∨ op = 47 ∨ op = 48 ∨ op = 49 ∨ op = 50 ∨ op = 51 ∨ op = 52 ∨ op = 53 ∨ op = 54 ∨ op = 55 ∨ op = 56 ∨ op = 57 ∨ op = 58 ∨ op = 59 ∨ op = 60) (w : World) :
    Calls Tryz.prog 99 #[.int .i64 op] w fun e w' => e = .returned (.int .i64 (upV op)) ∧ w = w' := by
  rcases h with rfl | rfl | rfl | rfl | rfl | rfl | rfl | rfl | rfl | rfl | rfl | rfl | rfl | rfl | rfl
  all_goals
    go_enter Tryz.func99, Tryz.ntmps99
    go_wp2
    go_ret
    exact ⟨za1 (by decide), rfl⟩
theorem upper7_4 (op : Int) (h : op = 61 ∨ op = 62 ∨ op = 63 ∨ op = 64 ∨ op = 65 ∨ op = 66 ∨ op = 67 ∨ op = 68 ∨ op = 69 ∨ op = 70 ∨ op = 71 ∨ op = 72 ∨ op = 73 ∨ op = 74 ∨ op = 75) (w : World) :
    Calls Tryz.prog 99 #[.int .i64 op] w fun e w' => e = .returned (.int .i64 (upV op)) ∧ w = w' := by
  rcases h with rfl | rfl | rfl | rfl | rfl | rfl | rfl | rfl | rfl | rfl | rfl | rfl | rfl | rfl | rfl
  all_goals
    go_enter Tryz.func99, Tryz.ntmps99
    go_wp2
    go_ret
    exact ⟨za1 (by decide), rfl⟩
theorem upper7_c (op : Int) (h : 1 ≤ op ∧ op ≤ 75) (w : World) :
    Calls Tryz.prog 99 #[.int .i64 op] w fun e w' => e = .returned (.int .i64 (upV op)) ∧ w = w' := by
  by_cases h0 : op = 1 ∨ op = 2 ∨ op = 3 ∨ op = 4 ∨ op = 5 ∨ op = 6 ∨ op = 7 ∨ op = 8 ∨ op = 9 ∨ op = 10 ∨ op = 11 ∨ op = 12 ∨ op = 13 ∨ op = 14 ∨ op = 15
  · exact upper7_0 op h0 w
  by_cases h1 : op = 16 ∨ op = 17 ∨ op = 18 ∨ op = 19 ∨ op = 20 ∨ op = 21 ∨ op = 22 ∨ op = 23 ∨ op = 24 ∨ op = 25 ∨ op = 26 ∨ op = 27 ∨ op = 28 ∨ op = 29 ∨ op = 30
  · exact upper7_1 op h1 w
  by_cases h2 : op = 31 ∨ op = 32 ∨ op = 33 ∨ op = 34 ∨ op = 35 ∨ op = 36 ∨ op = 37 ∨ op = 38 ∨ op = 39 ∨ op = 40 ∨ op = 41 ∨ op = 42 ∨ op = 43 ∨ op = 44 ∨ op = 45
  · exact upper7_2 op h2 w
  by_cases h3 : op = 46 ∨ op = 47 ∨ op = 48 ∨ op = 49 ∨ op = 50 ∨ op = 51 ∨ op = 52 ∨ op = 53 ∨ op = 54 ∨ op = 55 ∨ op = 56 ∨ op = 57 ∨ op = 58 ∨ op = 59 ∨ op = 60
  · exact upper7_3 op h3 w
  exact upper7_4 op (by omega) w
end Go.Proofs.YtmamblgpekafbaaGreatDoor
namespace Go.Proofs.YtmamblgpekafbaaGreatDoor
open Go.RowKit
def Stl (f : FuncId) (args : Array Value) (v : Value) : Prop := ∀ w : World, Calls Tryz.prog f args w fun e w' => e = .returned v ∧ w' = w
theorem Stl.of {f : FuncId} {args : Array Value} {v : Value} (h : ∀ w, Calls Tryz.prog f args w fun e w' => e = .returned v ∧ w = w') : Stl f args v := fun w => (h w).mono fun _ _ hh => ⟨hh.1, hh.2.symm⟩
theorem join11 {T : TypeId} {g : Nat} {w : World} (a0 a1 a2 a3 a4 a5 a6 a7 a8 a9 a10 : Int) (hb : ∀ x ∈ [a0, a1, a2, a3, a4, a5, a6, a7, a8, a9, a10], 0 ≤ x ∧ x < 4294967296)
    (h : Blk #[.int .u32 a0, .int .u32 a1, .int .u32 a2, .int .u32 a3, .int .u32 a4, .int .u32 a5, .int .u32 a6, .int .u32 a7, .int .u32 a8, .int .u32 a9, .int .u32 a10] T g w) :
    Calls Tryz.prog 95 #[.slice (some ⟨g, 0, none⟩) 11 11] w fun e w' => e = .returned (.int .u32 (zo9 [a0, a1, a2, a3, a4, a5, a6, a7, a8, a9, a10])) ∧ w = w' :=
  join_c (some ⟨g, 0, none⟩) 11 [a0, a1, a2, a3, a4, a5, a6, a7, a8, a9, a10] w (by simp) (.inr ⟨g, 0, rfl, h.lt, fun i v hv => by rw [Nat.zero_add, h.cell]; simpa using hv⟩) hb
theorem zO0 {i : Ins} (h : Rgt i) : ∀ x ∈ zu5 i, 0 ≤ x ∧ x < 4294967296 := by
  have hop := h.op
  have hr := h.rd
  have hr1 := h.rs1
  have hr2 := h.rs2
  have ht := zL2 ⟨i.op.toNat - 1, by omega⟩
  have hg := zS6 ⟨i.op.toNat - 1, by omega⟩
  simp only [show ((i.op.toNat - 1 : Nat) : Int) + 1 = i.op by omega] at ht hg
  obtain ⟨t1, ⟨t2, t3⟩, _⟩ := ht
  obtain ⟨c0, c1, g0, g1, _⟩ := hg
  have b0 := zj2 i.rl
  have b1 := zj2 i.aq
  have hps : 0 ≤ i.pred ∧ i.pred < 16 ∧ 0 ≤ i.succ ∧ i.succ < 16 := by
    by_cases e : i.op = 50
    · have := h.fen e; omega
    · by_cases e' : i.op = 51
      · have := h.tso e'; omega
      · have := h.oth e e'; omega
  have hI : 0 ≤ immW i.op i.imm ∧ immW i.op i.imm < 4294967296 := by
    have h6 := h.sh6
    have h5 := h.sh5
    have hc := zG1 hop
    unfold immW
    by_cases e : 0 < shV i.op
    · rw [if_pos e]; omega
    · rw [if_neg e]
      by_cases e' : 0 < fmV i.op
      · rw [if_pos e']
        have := zi1 (fmV i.op) (i.imm % 18446744073709551616) 32
        rw [show (2 : Int) ^ 32 = 4294967296 by decide] at this
        exact this
      · rw [if_neg e']; omega
  rw [← t1] at g0 g1
  unfold zu5
  intro x hx
  simp only [List.mem_cons, List.not_mem_nil, or_false] at hx
  omega
set_option maxRecDepth 100000 in
theorem zY9 (i : Ins) (hR : Rgt i) (w : World) (TH : ∀ g x, Jn w i g x → TabL x)
    (KR : ∀ g x, Jn w i g x → Calls Tryz.prog 93 #[insV i] x fun e w' => e = .returned (.bool true) ∧ Jn w i g w')
    (KI : ∀ g x, Jn w i g x → Calls Tryz.prog 94 #[.int .i64 i.op, .int .i64 i.imm] x fun e w' => e = .returned (.tuple #[.int .u32 (immW i.op i.imm), .bool true]) ∧ Jn w i g w')
    (KO : ∀ g x, Jn w i g x → Calls Tryz.prog 96 #[.int .i64 i.op] x fun e w' => e = .returned (.int .u32 (ocV i.op)) ∧ x = w') :
    Calls Tryz.prog 54 #[insV i] w fun e w' => e = .returned (.tuple #[.int .u32 (zd9 i), .int .i64 0]) ∧ Below w.heap.size w w' := by
  have HJ0 : Jn w i w.heap.size (w.alloc (.cells (za0 i) 39)) := ⟨BW.new (Below.refl _ _) _, Blk.new _ _ _, Nat.le_refl _⟩
  have hw := Zg2 hR
  have hpr := zO0 hR
  have hop := hR.op
  have hps : 0 ≤ i.pred ∧ i.pred < 16 ∧ 0 ≤ i.succ ∧ i.succ < 16 := by
    by_cases e : i.op = 50
    · have := hR.fen e; omega
    · by_cases e' : i.op = 51
      · have := hR.tso e'; omega
      · have := hR.oth e e'; omega
  have hr := hR.rd
  have hr1 := hR.rs1
  have hr2 := hR.rs2
  have ht := zL2 ⟨i.op.toNat - 1, by omega⟩
  have hg := zS6 ⟨i.op.toNat - 1, by omega⟩
  simp only [show ((i.op.toNat - 1 : Nat) : Int) + 1 = i.op by omega] at ht hg
  obtain ⟨t1, ⟨t2, t3⟩, t4⟩ := ht
  obtain ⟨c0, c1, g0, g1, g2⟩ := hg
  clear t4 g2
  rw [← t1] at g0 g1
  have A1 : Stl 97 #[.int .i64 7, .int .i64 i.rd] (.int .u32 (i.rd * 128)) := Stl.of fun w => at_c 7 128 i.rd (by decide) (by omega) (by omega) w
  have A2 : Stl 97 #[.int .i64 12, .int .i64 (thV i.op)] (.int .u32 (thV i.op * 4096)) := Stl.of fun w => at_c 12 4096 _ (by decide) (by omega) (by omega) w
  have A3 : Stl 97 #[.int .i64 15, .int .i64 i.rs1] (.int .u32 (i.rs1 * 32768)) := Stl.of fun w => at_c 15 32768 _ (by decide) (by omega) (by omega) w
  have A4 : Stl 97 #[.int .i64 20, .int .i64 i.rs2] (.int .u32 (i.rs2 * 1048576)) := Stl.of fun w => at_c 20 1048576 _ (by decide) (by omega) (by omega) w
  have A5 : Stl 97 #[.int .i64 20, .int .i64 (upV i.op)] (.int .u32 (upV i.op * 1048576)) := Stl.of fun w => at_c 20 1048576 _ (by decide) (by omega) (by omega) w
  have A6 : Stl 97 #[.int .i64 20, .int .i64 i.succ] (.int .u32 (i.succ * 1048576)) := Stl.of fun w => at_c 20 1048576 _ (by decide) (by omega) (by omega) w
  have A7 : Stl 97 #[.int .i64 24, .int .i64 i.pred] (.int .u32 (i.pred * 16777216)) := Stl.of fun w => at_c 24 16777216 _ (by decide) (by omega) (by omega) w
  have A8 : Stl 100 #[.int .i64 25, .bool i.rl] (.int .u32 (b01 i.rl * 33554432)) := Stl.of fun w => flag_c 25 33554432 _ (by decide) w
  have A9 : Stl 100 #[.int .i64 26, .bool i.aq] (.int .u32 (b01 i.aq * 67108864)) := Stl.of fun w => flag_c 26 67108864 _ (by decide) w
  have KT : ∀ g x, Jn w i g x → Calls Tryz.prog 98 #[.int .i64 i.op] x fun e w' => e = .returned (.int .i64 (thV i.op)) ∧ w' = x := fun g x h => (third7_c i.op hop x (TH g x h)).mono fun _ _ hh => ⟨hh.1, hh.2.symm⟩
  have KU : Stl 99 #[.int .i64 i.op] (.int .i64 (upV i.op)) := Stl.of fun w => upper7_c i.op hop w
  clear TH hr hr1 hr2 hps hop t1 t2 t3 c0 c1 g0 g1 hR
  have HW : Hid (zo9 (zu5 i) = zd9 i) := hw
  have HPR := Lib.hid hpr
  unfold zu5 at HW HPR
  clear hw hpr
  obtain ⟨op, rd, rs1, rs2, imm, aq, rl, pred, succ⟩ := i
  unfold insV za0 at *
  simp only at HJ0 KR KI KO KT KU A1 A2 A3 A4 A5 A6 A7 A8 A9 HW HPR ⊢
  generalize zd9 _ = W at *
  generalize thV _ = th at *
  generalize upV _ = up at *
  generalize immW _ _ = iw at *
  generalize ocV _ = oc at *
  generalize b01 rl * 33554432 = zr at *
  generalize b01 aq * 67108864 = za at *
  generalize rd * 128 = zd at *
  generalize th * 4096 = zt at *
  generalize rs1 * 32768 = z1 at *
  generalize rs2 * 1048576 = z2 at *
  generalize up * 1048576 = zu at *
  generalize succ * 1048576 = zs at *
  generalize pred * 16777216 = zp at *
  go_enter Tryz.func54, Tryz.ntmps54
  go_upto_region 1 with (fail)
  generalize w.alloc (.cells _ 39) = w1 at *
  obtain ⟨g, hg⟩ : ∃ g, w.heap.size = g := ⟨_, rfl⟩
  have HJ : Jn w ⟨op, rd, rs1, rs2, imm, aq, rl, pred, succ⟩ g w1 := by rw [← hg]; exact HJ0
  rw [hg]
  have HGG := Lib.hid hg
  clear hg HJ0
  obtain ⟨q0, q1, q2, q3, q4, q5, q6, q7, q8⟩ := HJ.cells
  simp only at q0 q1 q2 q3 q4 q5 q6 q7 q8
  go_upto_region 4 with (first
    | (go_at_call 93; refine (KR g _ HJ).mono ?_; rintro e w2 ⟨rfl, HJ2⟩; clear q0 q1 q2 q3 q4 q5 q6 q7 q8 HJ; have HJ := HJ2; clear HJ2; obtain ⟨q0, q1, q2, q3, q4, q5, q6, q7, q8⟩ := HJ.cells; simp only at q0 q1 q2 q3 q4 q5 q6 q7 q8)
    | (go_at_call 94; refine (KI g _ HJ).mono ?_; rintro e w3 ⟨rfl, HJ2⟩; clear q0 q1 q2 q3 q4 q5 q6 q7 q8 HJ; have HJ := HJ2; clear HJ2; obtain ⟨q0, q1, q2, q3, q4, q5, q6, q7, q8⟩ := HJ.cells; simp only at q0 q1 q2 q3 q4 q5 q6 q7 q8))
  clear q0 q1 q2 q3 q4 q5 q6 q7 q8
  have HJ2 := HJ.drew
  clear HJ KR KI
  refine wp_region_still_tail 33 (by kernel_rfl) (by kernel_rfl) ?_
  change wpStill _ _ w3.drew (fun a' => wpList _ _ _ _ a' w3.drew) _ _
  generalize w3.drew = w4 at *
  obtain ⟨q0, q1, q2, q3, q4, q5, q6, q7, q8⟩ := HJ2.cells
  simp only at q0 q1 q2 q3 q4 q5 q6 q7 q8
  have KT4 := KT g w4 HJ2
  have A0 : Calls Tryz.prog 96 #[.int .i64 op] w4 fun e w' => e = .returned (.int .u32 oc) ∧ w' = w4 := (KO g w4 HJ2).mono fun _ _ hh => ⟨hh.1, hh.2.symm⟩
  have HBW := Lib.hid HJ2.1
  clear KT KO HJ2
  simp only [List.take_succ_cons, List.take_zero, List.drop_succ_cons, List.drop_zero]
  still_step
  still_step
  still_call A0
  still_step
  still_step
  still_call (A1 w4)
  still_step
  still_step
  still_call KT4
  still_call (A2 w4)
  still_step
  still_step
  still_call (A3 w4)
  still_step
  still_step
  still_call (A4 w4)
  still_step
  still_step
  still_call (KU w4)
  still_call (A5 w4)
  still_step
  still_step
  still_step
  still_call (A6 w4)
  still_step
  still_step
  still_call (A7 w4)
  still_step
  still_step
  still_call (A8 w4)
  still_step
  still_step
  still_call (A9 w4)
  refine wpStill_nil ?_
  clear A0 A1 A2 A3 A4 A5 A6 A7 A8 A9 q0 q1 q2 q3 q4 q5 q6 q7 q8 KT4 KU
  go_wp2_with (first
    | (go_at_call 95; refine (join11 _ _ _ _ _ _ _ _ _ _ _ HPR.out (Blk.new _ _ w4)).mono ?_; rintro e w5 ⟨rfl, rfl⟩))
  go_ret2
  rw [HW.out]
  exact ⟨rfl, BW.new HBW.out _⟩
end Go.Proofs.YtmamblgpekafbaaGreatDoor
