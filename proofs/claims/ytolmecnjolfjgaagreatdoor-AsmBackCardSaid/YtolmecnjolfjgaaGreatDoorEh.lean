/- The program's format, shift and immediate of package encode, over the tables that the code lays. -/
import Derived.Test.YtolmecnjolfjgaaGreatDoorRows
import Derived.Test.YtolmecnjolfjgaaGreatDoorEw
import Derived.Test.YtolmecnjolfjgaaGreatDoorCwx
import Derived.Test.YtolmecnjolfjgaaGreatDoorOp5
import Derived.Test.YtolmecnjolfjgaaGreatDoorFg
import Derived.Test.YtolmecnjolfjgaaGreatDoorRg
import Derived.WalkKit
import Derived.WalkLawsBesides
import Derived.Deep.QuietTactic
import Derived.BigQuiet
import Derived.WalkSmall
import Derived.WalkSpells
import Derived.Lib.Hide
import Derived.Below
set_option maxRecDepth 100000
namespace Go.Proofs.YtolmecnjolfjgaaGreatDoor
open Go.RowKit

/-- The tables, as the code lays them. -/
structure Tab7 (w : World) : Prop where
  dec : Tab6 w
theorem Tab7.below {W w : World} (h : Tab7 W) (hb : Below W.heap.size W w) : Tab7 w := ⟨h.dec.below hb⟩

/-- A format by the operation's sort. -/
def fsV (op s : Int) : Int := if op = 3 then 5 else if op = 4 then 1 else if s = 1 then 4 else if s = 3 then 3 else if s = 4 ∨ s = 6 then 1 else if s = 5 then 2 else 0
theorem fs_all : ∀ k : Fin 75, shV ((k.val : Int) + 1) = 0 → fmV ((k.val : Int) + 1) = fsV ((k.val : Int) + 1) (srt ((k.val : Int) + 1)) := by decide +kernel
theorem tab_out {l : List Int} {op : Int} (h : ¬ (1 ≤ op ∧ op ≤ 75)) : tabI l op = 0 := if_neg h
theorem fs_any {op : Int} (h : shV op = 0) : fmV op = fsV op (srt op) := by
  by_cases hr : 1 ≤ op ∧ op ≤ 75
  · have := fs_all ⟨op.toNat - 1, by omega⟩
    simp only [show ((op.toNat - 1 : Nat) : Int) + 1 = op by omega] at this
    exact this h
  · have hs := srt_spec op
    have e : srt op = 0 := by omega
    unfold fmV
    rw [tab_out hr, e]
    unfold fsV
    rw [if_neg (by omega), if_neg (by omega), if_neg (by decide), if_neg (by decide), if_neg (by decide), if_neg (by decide)]
theorem eformat_c (op : Int) (ho : I64 op) (h : shV op = 0) (w : World) (hT : TabL w) :
    Calls Tryz.prog 158 #[.int .i64 op] w fun e w' => e = .returned (.int .i64 (fmV op)) ∧ w = w' := by
  have KS := fun w hT => sort_c op ho w hT
  have HV := Lib.hid (fs_any h)
  clear h
  by_cases h3 : op = 3
  · subst h3
    have HX : Hid (fmV 3 = 5) := by show _ = _; decide
    go_enter Tryz.func158, Tryz.ntmps158
    go_wp2
    go_ret
    exact ⟨ret_int HX.out.symm, rfl⟩
  by_cases h4 : op = 4
  · subst h4
    have HX : Hid (fmV 4 = 1) := by show _ = _; decide
    go_enter Tryz.func158, Tryz.ntmps158
    go_wp2
    go_ret
    exact ⟨ret_int HX.out.symm, rfl⟩
  have b3 : (op == 3) = false := by simpa using h3
  have b4 : (op == 4) = false := by simpa using h4
  have HX : Hid (fmV op = if srt op = 1 then 4 else if srt op = 3 then 3 else if srt op = 4 ∨ srt op = 6 then 1 else if srt op = 5 then 2 else 0) := by
    show _ = _; rw [HV.out]; unfold fsV; rw [if_neg h3, if_neg h4]
  clear HV h3 h4 ho
  have hc : srt op = 1 ∨ srt op = 3 ∨ srt op = 4 ∨ srt op = 6 ∨ srt op = 5 ∨ (srt op ≠ 1 ∧ srt op ≠ 3 ∧ srt op ≠ 4 ∧ srt op ≠ 6 ∧ srt op ≠ 5) := by omega
  rcases hc with hc | hc | hc | hc | hc | ⟨n1, n3, n4, n6, n5⟩
  case inr.inr.inr.inr.inr =>
    have HY : Hid (fmV op = 0) := by show _ = _; rw [HX.out, if_neg n1, if_neg n3, if_neg (by omega), if_neg n5]
    have c1 : (srt op == 1) = false := by simpa using n1
    have c3 : (srt op == 3) = false := by simpa using n3
    have c4 : (srt op == 4) = false := by simpa using n4
    have c6 : (srt op == 6) = false := by simpa using n6
    have c5 : (srt op == 5) = false := by simpa using n5
    clear HX n1 n3 n4 n6 n5
    generalize srt op = s at *
    go_enter Tryz.func158, Tryz.ntmps158
    go_wp2_with (first
      | (go_at_call 56; refine (KS _ hT).mono ?_; rintro e w' ⟨rfl, rfl⟩))
    go_ret
    exact ⟨ret_int HY.out.symm, rfl⟩
  all_goals
    have HY := Lib.hid HX.out
    rw [hc] at KS HY
    clear HX hc
    go_enter Tryz.func158, Tryz.ntmps158
    go_wp2_with (first
      | (go_at_call 56; refine (KS _ hT).mono ?_; rintro e w' ⟨rfl, rfl⟩))
    go_ret
    exact ⟨ret_int (HY.out.trans (by decide)).symm, rfl⟩

theorem ret_um {a c : Int} {b d : Bool} (h : a = c) (g : b = d) : Ending.returned (.tuple #[.int .u32 a, .bool b]) = .returned (.tuple #[.int .u32 c, .bool d]) := by rw [h, g]
def shB (last by' : Int) : Bool := decide (0 ≤ by' ∧ by' ≤ last)
def shW (last x : Int) : Int := if shB last x then x * 1048576 else 0
theorem shift_c (x last : Int) (hl : last = 63 ∨ last = 31) (w : World) :
    Calls Tryz.prog 157 #[.int .i64 x, .int .i64 last] w fun e w' => e = .returned (.tuple #[.int .u32 (shW last x), .bool (shB last x)]) ∧ w = w' := by
  by_cases h : 0 ≤ x ∧ x ≤ last
  · have HS : Hid (shB last x = true) := decide_eq_true h
    have HW : Hid (shW last x = x * 1048576) := by show _ = _; unfold shW; rw [HS.out]; rfl
    have HA := fun w => at_c 20 1048576 x (by omega) (by omega) (by omega) w
    have h0 := h.1
    have h1 := h.2
    clear h hl
    go_enter Tryz.func157, Tryz.ntmps157
    go_wp2_with (first
      | (go_at_call 111; refine (HA _).mono ?_; rintro e w' ⟨rfl, rfl⟩))
    go_ret2
    exact ⟨ret_um HW.out.symm HS.out.symm, rfl⟩
  · have HS : Hid (shB last x = false) := decide_eq_false h
    have HW : Hid (shW last x = 0) := by show _ = _; unfold shW; rw [HS.out]; rfl
    by_cases h0 : 0 ≤ x
    · have h1 : last < x := by omega
      clear h hl
      go_enter Tryz.func157, Tryz.ntmps157
      go_wp2
      go_ret2
      exact ⟨ret_um HW.out.symm HS.out.symm, rfl⟩
    · have h0 : x < 0 := by omega
      clear h hl
      go_enter Tryz.func157, Tryz.ntmps157
      go_wp2
      go_ret2
      exact ⟨ret_um HW.out.symm HS.out.symm, rfl⟩

/-- May an immediate be an operation's. -/
def imB (op imm : Int) : Bool := decide (P3 ⟨op, 0, 0, 0, imm, false, false, 0, 0⟩)
theorem imB_P3 (i : Ins) : imB i.op i.imm = decide (P3 i) := rfl
theorem shx_all : ∀ k : Fin 75, shV ((k.val : Int) + 1) = (if (k.val : Int) + 1 = 28 ∨ (k.val : Int) + 1 = 29 ∨ (k.val : Int) + 1 = 30 then 6 else if (k.val : Int) + 1 = 32 ∨ (k.val : Int) + 1 = 33 ∨ (k.val : Int) + 1 = 34 then 5 else 0) := by decide +kernel
theorem shx_any (op : Int) : shV op = (if op = 28 ∨ op = 29 ∨ op = 30 then 6 else if op = 32 ∨ op = 33 ∨ op = 34 then 5 else 0) := by
  by_cases hr : 1 ≤ op ∧ op ≤ 75
  · have := shx_all ⟨op.toNat - 1, by omega⟩
    simp only [show ((op.toNat - 1 : Nat) : Int) + 1 = op by omega] at this
    exact this
  · unfold shV
    rw [tab_out hr, if_neg (by omega), if_neg (by omega)]
theorem imB_sh6 {op imm : Int} (h : shV op = 6) (hf : fmV op = 0) : imB op imm = shB 63 imm := by
  unfold imB shB P3
  simp [h, hf]
theorem imB_sh5 {op imm : Int} (h : shV op = 5) (hf : fmV op = 0) : imB op imm = shB 31 imm := by
  unfold imB shB P3
  simp [h, hf]
theorem imB_non {op imm : Int} (h : shV op = 0) (hf : fmV op = 0) : imB op imm = decide (imm = 0) := by
  unfold imB P3
  simp [h, hf]
theorem imB_may {op imm : Int} (h : shV op = 0) (hf : 0 < fmV op) : imB op imm = mayB (fmV op) imm := by
  have hz : ¬ fmV op = 0 := by omega
  unfold imB P3 mayB
  simp [h, hz, hf]
theorem fm_sh : ∀ k : Fin 75, shV ((k.val : Int) + 1) ≠ 0 → fmV ((k.val : Int) + 1) = 0 := by decide +kernel
theorem immW_sh {op imm : Int} (h : 0 < shV op) : immW op imm = imm * 1048576 := by unfold immW; rw [if_pos h]
theorem immW_non {op imm : Int} (h : shV op = 0) (hf : fmV op = 0) : immW op imm = 0 := by unfold immW; rw [h, hf]; rfl
theorem immW_may {op imm : Int} (h : shV op = 0) (hf : 0 < fmV op) : immW op imm = putK (fmV op) (imm % 18446744073709551616) 32 := by unfold immW; rw [h, if_neg (by decide), if_pos hf]
def imW (op imm : Int) : Int := if imB op imm then immW op imm else 0
set_option maxHeartbeats 1000000 in
theorem imme_c (op imm : Int) (ho : I64 op) (w : World) (T : Tab6 w) :
    Calls Tryz.prog 108 #[.int .i64 op, .int .i64 imm] w fun e w' => e = .returned (.tuple #[.int .u32 (imW op imm), .bool (imB op imm)]) ∧ Below w.heap.size w w' := by
  have hsh := shx_any op
  by_cases h6 : op = 28 ∨ op = 29 ∨ op = 30
  · rw [if_pos h6] at hsh
    have hf : fmV op = 0 := by rcases h6 with rfl | rfl | rfl <;> decide
    have HK := fun w => shift_c imm 63 (by decide) w
    have HB := Lib.hid (imB_sh6 (imm := imm) hsh hf)
    have HW : Hid (imW op imm = shW 63 imm) := by show _ = _; unfold imW shW; rw [HB.out, immW_sh (by rw [hsh]; decide)]
    clear hsh hf ho T
    generalize shB 63 imm = b at *
    generalize shW 63 imm = v at *
    rcases h6 with rfl | rfl | rfl
    all_goals
      go_enter Tryz.func108, Tryz.ntmps108
      go_wp2_with (first
        | (go_at_call 157; refine (HK _).mono ?_; rintro e w' ⟨rfl, rfl⟩))
      go_ret2
      exact ⟨ret_um HW.out.symm HB.out.symm, Below.refl _ _⟩
  by_cases h5 : op = 32 ∨ op = 33 ∨ op = 34
  · rw [if_neg h6, if_pos h5] at hsh
    have hf : fmV op = 0 := by rcases h5 with rfl | rfl | rfl <;> decide
    have HK := fun w => shift_c imm 31 (by decide) w
    have HB := Lib.hid (imB_sh5 (imm := imm) hsh hf)
    have HW : Hid (imW op imm = shW 31 imm) := by show _ = _; unfold imW shW; rw [HB.out, immW_sh (by rw [hsh]; decide)]
    clear hsh hf ho T h6
    generalize shB 31 imm = b at *
    generalize shW 31 imm = v at *
    rcases h5 with rfl | rfl | rfl
    all_goals
      go_enter Tryz.func108, Tryz.ntmps108
      go_wp2_with (first
        | (go_at_call 157; refine (HK _).mono ?_; rintro e w' ⟨rfl, rfl⟩))
      go_ret2
      exact ⟨ret_um HW.out.symm HB.out.symm, Below.refl _ _⟩
  rw [if_neg h6, if_neg h5] at hsh
  have HF := fun w hT => eformat_c op ho hsh w hT
  have b1 : (op == 28) = false := by simp; omega
  have b2 : (op == 29) = false := by simp; omega
  have b3 : (op == 30) = false := by simp; omega
  have b4 : (op == 32) = false := by simp; omega
  have b5 : (op == 33) = false := by simp; omega
  have b6 : (op == 34) = false := by simp; omega
  have hL := T.lasts
  clear h6 h5 ho
  by_cases hf : fmV op = 0
  · have HB := Lib.hid (imB_non (imm := imm) hsh hf)
    have HW : Hid (imW op imm = 0) := by show _ = _; unfold imW; rw [immW_non hsh hf]; split <;> rfl
    rw [hf] at HF
    clear hsh hf T
    go_enter Tryz.func108, Tryz.ntmps108
    go_wp2_with (first
      | (go_at_call 158; refine (HF _ hL).mono ?_; rintro e w' ⟨rfl, rfl⟩))
    go_ret2
    exact ⟨ret_um HW.out.symm (by rw [HB.out]; rfl), Below.refl _ _⟩
  · have hp : 0 < fmV op := by
      by_cases hr : 1 ≤ op ∧ op ≤ 75
      · have := classes hr; omega
      · exact absurd (tab_out hr) hf
    have HB := Lib.hid (imB_may (imm := imm) hsh hp)
    have HW : Hid (imW op imm = putV (fmV op) imm) := by show _ = _; unfold imW putV; rw [HB.out, immW_may hsh hp]
    have KP := fun w hT => put_c (fmV op) imm w hT
    have hy := T.lay
    have bz : (fmV op == 0) = false := by simpa using hf
    clear hsh hf hp T
    generalize putV (fmV op) imm = pv at *
    generalize mayB (fmV op) imm = mb at *
    generalize fmV op = f at *
    go_enter Tryz.func108, Tryz.ntmps108
    go_wp2_with (first
      | (go_at_call 158; refine (HF _ hL).mono ?_; rintro e w' ⟨rfl, rfl⟩)
      | (go_at_call 159; refine (KP _ hy).mono ?_; rintro e w' ⟨rfl, hq⟩))
    go_ret2
    exact ⟨ret_um HW.out.symm HB.out.symm, hq⟩
end Go.Proofs.YtolmecnjolfjgaaGreatDoor
