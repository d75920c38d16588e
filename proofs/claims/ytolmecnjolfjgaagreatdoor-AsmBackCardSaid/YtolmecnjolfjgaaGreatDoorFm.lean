/- The document's Format and Five. -/
import Derived.Test.YtolmecnjolfjgaaGreatDoorRows
import Derived.Test.YtolmecnjolfjgaaGreatDoorSy
import Derived.Test.YtolmecnjolfjgaaGreatDoorSh
import Derived.WalkKit
import Derived.WalkLawsBesides
import Derived.Deep.QuietTactic
import Derived.BigQuiet
import Derived.WalkSmall
import Derived.WalkSpells
import Derived.Lib.Hide
import Derived.Below
set_option maxRecDepth 100000
namespace Go.Proofs.YtolmecnjolfjgaaGreatDoor
open Go.RowKit

def FmAt (op : Int) : Prop := ∀ w : World, Calls Tryz.prog 70 #[.int .i64 op] w fun e w' => e = .returned (.int .i64 (fmV op)) ∧ BW w w'
def FvAt (op : Int) : Prop := ∀ w : World, Calls Tryz.prog 77 #[.int .i64 op] w fun e w' => e = .returned (.int .u32 (agV op)) ∧ BW w w'
theorem fm_kinds : ∀ k : Fin 75, (shV ((k.val : Int) + 1) ≠ 0 ∧ 0 < shV ((k.val : Int) + 1) ∧ fmV ((k.val : Int) + 1) = 0) ∨ (shV ((k.val : Int) + 1) = 0 ∧ ((srt ((k.val : Int) + 1) = 1 ∧ fmV ((k.val : Int) + 1) = 4) ∨ ((k.val : Int) + 1 = 3 ∧ srt ((k.val : Int) + 1) = 2 ∧ fmV ((k.val : Int) + 1) = 5) ∨ (srt ((k.val : Int) + 1) = 2 ∧ (k.val : Int) + 1 ≠ 3 ∧ fmV ((k.val : Int) + 1) = 1) ∨ (srt ((k.val : Int) + 1) = 3 ∧ fmV ((k.val : Int) + 1) = 3) ∨ (srt ((k.val : Int) + 1) = 4 ∧ fmV ((k.val : Int) + 1) = 1) ∨ (srt ((k.val : Int) + 1) = 6 ∧ fmV ((k.val : Int) + 1) = 1) ∨ (srt ((k.val : Int) + 1) = 5 ∧ fmV ((k.val : Int) + 1) = 2) ∨ (7 ≤ srt ((k.val : Int) + 1) ∧ fmV ((k.val : Int) + 1) = 0))) := by decide
theorem fm_any (op : Int) (h : 1 ≤ op ∧ op ≤ 75) : FmAt op := by
  intro w
  have HS := fun w1 h => sort_bw w w1 h op (by omega) (by omega)
  have HH : ∀ w1, BW w w1 → Calls Tryz.prog 72 #[.int .i64 op] w1 fun e w' => e = .returned (.int .i64 (shV op)) ∧ BW w w' := fun w1 hb => (sh_any op h w1).mono fun _ _ ⟨he, hc⟩ => ⟨he, hb.on hc⟩
  have HB : BW w w := Below.refl _ _
  have hk := fm_kinds ⟨op.toNat - 1, by omega⟩
  simp only [show ((op.toNat - 1 : Nat) : Int) + 1 = op by omega] at hk
  clear h
  rcases hk with ⟨_, hs, hf⟩ | ⟨hz, hk⟩
  · rw [hf]
    generalize shV op = s at *
    generalize srt op = k at *
    clear hf
    go_enter Tryz.func70, Tryz.ntmps70
    go_wp2_with (first
      | (go_at_call 46; refine (HS _ (by assumption)).mono ?_; rintro e w' ⟨rfl, hb⟩)
      | (go_at_call 72; refine (HH _ (by assumption)).mono ?_; rintro e w' ⟨rfl, hb⟩))
    go_ret
    exact ⟨rfl, by assumption⟩
  · rw [hz] at HH
    clear hz
    rcases hk with ⟨hk, hf⟩ | ⟨rfl, hk, hf⟩ | ⟨hk, hn, hf⟩ | ⟨hk, hf⟩ | ⟨hk, hf⟩ | ⟨hk, hf⟩ | ⟨hk, hf⟩ | ⟨hk, hf⟩
    all_goals
      try (have b3 : (op == 3) = false := by simpa using hn)
      rw [hf]
      first | rw [hk] at HS | generalize srt op = k at *
      clear hf
      go_enter Tryz.func70, Tryz.ntmps70
      go_wp2_with (first
        | (go_at_call 46; refine (HS _ (by assumption)).mono ?_; rintro e w' ⟨rfl, hb⟩)
        | (go_at_call 72; refine (HH _ (by assumption)).mono ?_; rintro e w' ⟨rfl, hb⟩))
      go_ret
      exact ⟨rfl, by assumption⟩
set_option maxHeartbeats 2000000 in
theorem fv_any (op : Int) (h : 54 ≤ op ∧ op ≤ 75) : FvAt op := by
  have hc : op = 54 ∨ op = 55 ∨ op = 56 ∨ op = 57 ∨ op = 58 ∨ op = 59 ∨ op = 60 ∨ op = 61 ∨ op = 62 ∨ op = 63 ∨ op = 64 ∨ op = 65 ∨ op = 66 ∨ op = 67 ∨ op = 68 ∨ op = 69 ∨ op = 70 ∨ op = 71 ∨ op = 72 ∨ op = 73 ∨ op = 74 ∨ op = 75 := by omega
  rcases hc with rfl | rfl | rfl | rfl | rfl | rfl | rfl | rfl | rfl | rfl | rfl | rfl | rfl | rfl | rfl | rfl | rfl | rfl | rfl | rfl | rfl | rfl
  all_goals
    intro w
    go_enter Tryz.func77, Tryz.ntmps77
    go_wp2
    go_ret
    exact ⟨ret_int (by decide), by first | exact Below.refl _ _ | exact BW.new (Below.refl _ _) _⟩
end Go.Proofs.YtolmecnjolfjgaaGreatDoor
