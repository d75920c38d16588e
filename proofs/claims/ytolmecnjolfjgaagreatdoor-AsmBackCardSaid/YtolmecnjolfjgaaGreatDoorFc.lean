/- The document's F3. -/
import Derived.Test.YtolmecnjolfjgaaGreatDoorRows
import Derived.Test.YtolmecnjolfjgaaGreatDoorSy
import Derived.WalkKit
import Derived.WalkLawsBesides
import Derived.Deep.QuietTactic
import Derived.BigQuiet
import Derived.WalkSmall
import Derived.WalkSpells
import Derived.Lib.Hide
import Derived.Below
set_option maxRecDepth 100000
namespace Go.Proofs.YtolmecnjolfjgaaGreatDoor
open Go.RowKit

def FcAt (op : Int) : Prop := ∀ w : World, Calls Tryz.prog 74 #[.int .i64 op] w fun e w' => e = .returned (.int .u32 (f3V op)) ∧ BW w w'
set_option maxHeartbeats 8000000 in
theorem fc_a (op : Int) (h : 1 ≤ op ∧ op ≤ 10) : FcAt op := by
  intro w
  have HS := fun w1 h => sort_bw w w1 h op (by omega) (by omega)
  have HN := fun w1 h => name_bw w w1 h op (by omega) (by omega)
  have HB : BW w w := Below.refl _ _
  rcases nfs_a h with ⟨rfl, hs, hn, e0⟩ | ⟨rfl, hs, hn, e0⟩ | ⟨rfl, hs, hn, e0⟩ | ⟨rfl, hs, hn, e0⟩ | ⟨rfl, hs, hn, e0⟩ | ⟨rfl, hs, hn, e0⟩ | ⟨rfl, hs, hn, e0⟩ | ⟨rfl, hs, hn, e0⟩ | ⟨rfl, hs, hn, e0⟩ | ⟨rfl, hs, hn, e0⟩
  all_goals
    rw [hs] at HS
    rw [hn] at HN
    clear hs hn h
    go_enter Tryz.func74, Tryz.ntmps74
    go_wp2_with (first
      | (go_at_call 46; refine (HS _ (by assumption)).mono ?_; rintro e w' ⟨rfl, hb⟩)
      | (go_at_call 58; refine (HN _ (by assumption)).mono ?_; rintro e w' ⟨rfl, hb⟩))
    go_ret
    exact ⟨ret_int (by decide), by first | assumption | exact BW.new (by assumption) _⟩
set_option maxHeartbeats 8000000 in
theorem fc_b (op : Int) (h : 11 ≤ op ∧ op ≤ 21) : FcAt op := by
  intro w
  have HS := fun w1 h => sort_bw w w1 h op (by omega) (by omega)
  have HN := fun w1 h => name_bw w w1 h op (by omega) (by omega)
  have HB : BW w w := Below.refl _ _
  rcases nfs_b h with ⟨rfl, hs, hn, e0⟩ | ⟨rfl, hs, hn, e0⟩ | ⟨rfl, hs, hn, e0⟩ | ⟨rfl, hs, hn, e0⟩ | ⟨rfl, hs, hn, e0⟩ | ⟨rfl, hs, hn, e0⟩ | ⟨rfl, hs, hn, e0⟩ | ⟨rfl, hs, hn, e0⟩ | ⟨rfl, hs, hn, e0⟩ | ⟨rfl, hs, hn, e0⟩ | ⟨rfl, hs, hn, e0⟩
  all_goals
    rw [hs] at HS
    rw [hn] at HN
    clear hs hn h
    go_enter Tryz.func74, Tryz.ntmps74
    go_wp2_with (first
      | (go_at_call 46; refine (HS _ (by assumption)).mono ?_; rintro e w' ⟨rfl, hb⟩)
      | (go_at_call 58; refine (HN _ (by assumption)).mono ?_; rintro e w' ⟨rfl, hb⟩))
    go_ret
    exact ⟨ret_int (by decide), by first | assumption | exact BW.new (by assumption) _⟩
set_option maxHeartbeats 8000000 in
theorem fc_c (op : Int) (h : 22 ≤ op ∧ op ≤ 30) : FcAt op := by
  intro w
  have HS := fun w1 h => sort_bw w w1 h op (by omega) (by omega)
  have HN := fun w1 h => name_bw w w1 h op (by omega) (by omega)
  have HB : BW w w := Below.refl _ _
  rcases nfs_c h with ⟨rfl, hs, hn, e0⟩ | ⟨rfl, hs, hn, e0⟩ | ⟨rfl, hs, hn, e0⟩ | ⟨rfl, hs, hn, e0⟩ | ⟨rfl, hs, hn, e0⟩ | ⟨rfl, hs, hn, e0⟩ | ⟨rfl, hs, hn, e0⟩ | ⟨rfl, hs, hn, e0⟩ | ⟨rfl, hs, hn, e0⟩
  all_goals
    rw [hs] at HS
    rw [hn] at HN
    clear hs hn h
    go_enter Tryz.func74, Tryz.ntmps74
    go_wp2_with (first
      | (go_at_call 46; refine (HS _ (by assumption)).mono ?_; rintro e w' ⟨rfl, hb⟩)
      | (go_at_call 58; refine (HN _ (by assumption)).mono ?_; rintro e w' ⟨rfl, hb⟩))
    go_ret
    exact ⟨ret_int (by decide), by first | assumption | exact BW.new (by assumption) _⟩
set_option maxHeartbeats 8000000 in
theorem fc_d (op : Int) (h : 31 ≤ op ∧ op ≤ 40) : FcAt op := by
  intro w
  have HS := fun w1 h => sort_bw w w1 h op (by omega) (by omega)
  have HN := fun w1 h => name_bw w w1 h op (by omega) (by omega)
  have HB : BW w w := Below.refl _ _
  rcases nfs_d h with ⟨rfl, hs, hn, e0⟩ | ⟨rfl, hs, hn, e0⟩ | ⟨rfl, hs, hn, e0⟩ | ⟨rfl, hs, hn, e0⟩ | ⟨rfl, hs, hn, e0⟩ | ⟨rfl, hs, hn, e0⟩ | ⟨rfl, hs, hn, e0⟩ | ⟨rfl, hs, hn, e0⟩ | ⟨rfl, hs, hn, e0⟩ | ⟨rfl, hs, hn, e0⟩
  all_goals
    rw [hs] at HS
    rw [hn] at HN
    clear hs hn h
    go_enter Tryz.func74, Tryz.ntmps74
    go_wp2_with (first
      | (go_at_call 46; refine (HS _ (by assumption)).mono ?_; rintro e w' ⟨rfl, hb⟩)
      | (go_at_call 58; refine (HN _ (by assumption)).mono ?_; rintro e w' ⟨rfl, hb⟩))
    go_ret
    exact ⟨ret_int (by decide), by first | assumption | exact BW.new (by assumption) _⟩
set_option maxHeartbeats 8000000 in
theorem fc_e (op : Int) (h : 41 ≤ op ∧ op ≤ 49) : FcAt op := by
  intro w
  have HS := fun w1 h => sort_bw w w1 h op (by omega) (by omega)
  have HN := fun w1 h => name_bw w w1 h op (by omega) (by omega)
  have HB : BW w w := Below.refl _ _
  rcases nfs_e h with ⟨rfl, hs, hn, e0⟩ | ⟨rfl, hs, hn, e0⟩ | ⟨rfl, hs, hn, e0⟩ | ⟨rfl, hs, hn, e0⟩ | ⟨rfl, hs, hn, e0⟩ | ⟨rfl, hs, hn, e0⟩ | ⟨rfl, hs, hn, e0⟩ | ⟨rfl, hs, hn, e0⟩ | ⟨rfl, hs, hn, e0⟩
  all_goals
    rw [hs] at HS
    rw [hn] at HN
    clear hs hn h
    go_enter Tryz.func74, Tryz.ntmps74
    go_wp2_with (first
      | (go_at_call 46; refine (HS _ (by assumption)).mono ?_; rintro e w' ⟨rfl, hb⟩)
      | (go_at_call 58; refine (HN _ (by assumption)).mono ?_; rintro e w' ⟨rfl, hb⟩))
    go_ret
    exact ⟨ret_int (by decide), by first | assumption | exact BW.new (by assumption) _⟩
set_option maxHeartbeats 8000000 in
theorem fc_f (op : Int) (h : 50 ≤ op ∧ op ≤ 57) : FcAt op := by
  intro w
  have HS := fun w1 h => sort_bw w w1 h op (by omega) (by omega)
  have HN := fun w1 h => name_bw w w1 h op (by omega) (by omega)
  have HB : BW w w := Below.refl _ _
  rcases nfs_f h with ⟨rfl, hs, hn, e0⟩ | ⟨rfl, hs, hn, e0⟩ | ⟨rfl, hs, hn, e0⟩ | ⟨rfl, hs, hn, e0⟩ | ⟨rfl, hs, hn, e0⟩ | ⟨rfl, hs, hn, e0⟩ | ⟨rfl, hs, hn, e0⟩ | ⟨rfl, hs, hn, e0⟩
  all_goals
    rw [hs] at HS
    rw [hn] at HN
    clear hs hn h
    go_enter Tryz.func74, Tryz.ntmps74
    go_wp2_with (first
      | (go_at_call 46; refine (HS _ (by assumption)).mono ?_; rintro e w' ⟨rfl, hb⟩)
      | (go_at_call 58; refine (HN _ (by assumption)).mono ?_; rintro e w' ⟨rfl, hb⟩))
    go_ret
    exact ⟨ret_int (by decide), by first | assumption | exact BW.new (by assumption) _⟩
set_option maxHeartbeats 8000000 in
theorem fc_g (op : Int) (h : 58 ≤ op ∧ op ≤ 66) : FcAt op := by
  intro w
  have HS := fun w1 h => sort_bw w w1 h op (by omega) (by omega)
  have HN := fun w1 h => name_bw w w1 h op (by omega) (by omega)
  have HB : BW w w := Below.refl _ _
  rcases nfs_g h with ⟨rfl, hs, hn, e0⟩ | ⟨rfl, hs, hn, e0⟩ | ⟨rfl, hs, hn, e0⟩ | ⟨rfl, hs, hn, e0⟩ | ⟨rfl, hs, hn, e0⟩ | ⟨rfl, hs, hn, e0⟩ | ⟨rfl, hs, hn, e0⟩ | ⟨rfl, hs, hn, e0⟩ | ⟨rfl, hs, hn, e0⟩
  all_goals
    rw [hs] at HS
    rw [hn] at HN
    clear hs hn h
    go_enter Tryz.func74, Tryz.ntmps74
    go_wp2_with (first
      | (go_at_call 46; refine (HS _ (by assumption)).mono ?_; rintro e w' ⟨rfl, hb⟩)
      | (go_at_call 58; refine (HN _ (by assumption)).mono ?_; rintro e w' ⟨rfl, hb⟩))
    go_ret
    exact ⟨ret_int (by decide), by first | assumption | exact BW.new (by assumption) _⟩
set_option maxHeartbeats 8000000 in
theorem fc_h (op : Int) (h : 67 ≤ op ∧ op ≤ 75) : FcAt op := by
  intro w
  have HS := fun w1 h => sort_bw w w1 h op (by omega) (by omega)
  have HN := fun w1 h => name_bw w w1 h op (by omega) (by omega)
  have HB : BW w w := Below.refl _ _
  rcases nfs_h h with ⟨rfl, hs, hn, e0⟩ | ⟨rfl, hs, hn, e0⟩ | ⟨rfl, hs, hn, e0⟩ | ⟨rfl, hs, hn, e0⟩ | ⟨rfl, hs, hn, e0⟩ | ⟨rfl, hs, hn, e0⟩ | ⟨rfl, hs, hn, e0⟩ | ⟨rfl, hs, hn, e0⟩ | ⟨rfl, hs, hn, e0⟩
  all_goals
    rw [hs] at HS
    rw [hn] at HN
    clear hs hn h
    go_enter Tryz.func74, Tryz.ntmps74
    go_wp2_with (first
      | (go_at_call 46; refine (HS _ (by assumption)).mono ?_; rintro e w' ⟨rfl, hb⟩)
      | (go_at_call 58; refine (HN _ (by assumption)).mono ?_; rintro e w' ⟨rfl, hb⟩))
    go_ret
    exact ⟨ret_int (by decide), by first | assumption | exact BW.new (by assumption) _⟩
theorem fc_any (op : Int) (h : 1 ≤ op ∧ op ≤ 75) : FcAt op := by
  by_cases ha : op ≤ 10
  · exact fc_a op ⟨by omega, ha⟩
  by_cases hb : op ≤ 21
  · exact fc_b op ⟨by omega, hb⟩
  by_cases hc : op ≤ 30
  · exact fc_c op ⟨by omega, hc⟩
  by_cases hd : op ≤ 40
  · exact fc_d op ⟨by omega, hd⟩
  by_cases he : op ≤ 49
  · exact fc_e op ⟨by omega, he⟩
  by_cases hf : op ≤ 57
  · exact fc_f op ⟨by omega, hf⟩
  by_cases hg : op ≤ 66
  · exact fc_g op ⟨by omega, hg⟩
  exact fc_h op ⟨by omega, h.2⟩
end Go.Proofs.YtolmecnjolfjgaaGreatDoor
