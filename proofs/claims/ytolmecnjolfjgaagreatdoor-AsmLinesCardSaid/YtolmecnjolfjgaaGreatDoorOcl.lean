/- The document's Opcode. The document's F3. The document's Turned and Shift. The document's Format and Five. -/
import Derived.Test.YtolmecnjolfjgaaGreatDoorRows
import Derived.Test.YtolmecnjolfjgaaGreatDoorSyl
import Derived.WalkKit
import Derived.WalkLawsBesides
import Derived.Deep.QuietTactic
import Derived.BigQuiet
import Derived.WalkSmall
import Derived.WalkSpells
import Derived.Lib.Hide
import Derived.Below
set_option maxRecDepth 100000
namespace Go.Proofs.YtolmecnjolfjgaaGreatDoor
open Go.RowKit

def OcAt (op : Int) : Prop := ∀ w : World, Calls Tryz.prog 73 #[.int .i64 op] w fun e w' => e = .returned (.int .u32 (ocV op)) ∧ BW w w'
set_option maxHeartbeats 8000000 in
theorem oc_a (op : Int) (h : 1 ≤ op ∧ op ≤ 10) : OcAt op := by
  intro w
  have HS := fun w1 h => sort_bw w w1 h op (by omega) (by omega)
  have HN := fun w1 h => name_bw w w1 h op (by omega) (by omega)
  have HB : BW w w := Below.refl _ _
  rcases nfs_a h with ⟨rfl, hs, hn, e0⟩ | ⟨rfl, hs, hn, e0⟩ | ⟨rfl, hs, hn, e0⟩ | ⟨rfl, hs, hn, e0⟩ | ⟨rfl, hs, hn, e0⟩ | ⟨rfl, hs, hn, e0⟩ | ⟨rfl, hs, hn, e0⟩ | ⟨rfl, hs, hn, e0⟩ | ⟨rfl, hs, hn, e0⟩ | ⟨rfl, hs, hn, e0⟩
  all_goals
    rw [hs] at HS
    rw [hn] at HN
    clear hs hn h
    go_enter Tryz.func73, Tryz.ntmps73
    go_wp2_with (first
      | (go_at_call 46; refine (HS _ (by assumption)).mono ?_; rintro e w' ⟨rfl, hb⟩)
      | (go_at_call 58; refine (HN _ (by assumption)).mono ?_; rintro e w' ⟨rfl, hb⟩))
    go_ret
    exact ⟨ret_int (by decide), by first | assumption | exact BW.new (by assumption) _⟩
set_option maxHeartbeats 8000000 in
theorem oc_b (op : Int) (h : 11 ≤ op ∧ op ≤ 21) : OcAt op := by
  intro w
  have HS := fun w1 h => sort_bw w w1 h op (by omega) (by omega)
  have HN := fun w1 h => name_bw w w1 h op (by omega) (by omega)
  have HB : BW w w := Below.refl _ _
  rcases nfs_b h with ⟨rfl, hs, hn, e0⟩ | ⟨rfl, hs, hn, e0⟩ | ⟨rfl, hs, hn, e0⟩ | ⟨rfl, hs, hn, e0⟩ | ⟨rfl, hs, hn, e0⟩ | ⟨rfl, hs, hn, e0⟩ | ⟨rfl, hs, hn, e0⟩ | ⟨rfl, hs, hn, e0⟩ | ⟨rfl, hs, hn, e0⟩ | ⟨rfl, hs, hn, e0⟩ | ⟨rfl, hs, hn, e0⟩
  all_goals
    rw [hs] at HS
    rw [hn] at HN
    clear hs hn h
    go_enter Tryz.func73, Tryz.ntmps73
    go_wp2_with (first
      | (go_at_call 46; refine (HS _ (by assumption)).mono ?_; rintro e w' ⟨rfl, hb⟩)
      | (go_at_call 58; refine (HN _ (by assumption)).mono ?_; rintro e w' ⟨rfl, hb⟩))
    go_ret
    exact ⟨ret_int (by decide), by first | assumption | exact BW.new (by assumption) _⟩
set_option maxHeartbeats 8000000 in
theorem oc_c (op : Int) (h : 22 ≤ op ∧ op ≤ 30) : OcAt op := by
  intro w
  have HS := fun w1 h => sort_bw w w1 h op (by omega) (by omega)
  have HN := fun w1 h => name_bw w w1 h op (by omega) (by omega)
  have HB : BW w w := Below.refl _ _
  rcases nfs_c h with ⟨rfl, hs, hn, e0⟩ | ⟨rfl, hs, hn, e0⟩ | ⟨rfl, hs, hn, e0⟩ | ⟨rfl, hs, hn, e0⟩ | ⟨rfl, hs, hn, e0⟩ | ⟨rfl, hs, hn, e0⟩ | ⟨rfl, hs, hn, e0⟩ | ⟨rfl, hs, hn, e0⟩ | ⟨rfl, hs, hn, e0⟩
  all_goals
    rw [hs] at HS
    rw [hn] at HN
    clear hs hn h
    go_enter Tryz.func73, Tryz.ntmps73
    go_wp2_with (first
      | (go_at_call 46; refine (HS _ (by assumption)).mono ?_; rintro e w' ⟨rfl, hb⟩)
      | (go_at_call 58; refine (HN _ (by assumption)).mono ?_; rintro e w' ⟨rfl, hb⟩))
    go_ret
    exact ⟨ret_int (by decide), by first | assumption | exact BW.new (by assumption) _⟩
set_option maxHeartbeats 8000000 in
theorem oc_d (op : Int) (h : 31 ≤ op ∧ op ≤ 40) : OcAt op := by
  intro w
  have HS := fun w1 h => sort_bw w w1 h op (by omega) (by omega)
  have HN := fun w1 h => name_bw w w1 h op (by omega) (by omega)
  have HB : BW w w := Below.refl _ _
  rcases nfs_d h with ⟨rfl, hs, hn, e0⟩ | ⟨rfl, hs, hn, e0⟩ | ⟨rfl, hs, hn, e0⟩ | ⟨rfl, hs, hn, e0⟩ | ⟨rfl, hs, hn, e0⟩ | ⟨rfl, hs, hn, e0⟩ | ⟨rfl, hs, hn, e0⟩ | ⟨rfl, hs, hn, e0⟩ | ⟨rfl, hs, hn, e0⟩ | ⟨rfl, hs, hn, e0⟩
  all_goals
    rw [hs] at HS
    rw [hn] at HN
    clear hs hn h
    go_enter Tryz.func73, Tryz.ntmps73
    go_wp2_with (first
      | (go_at_call 46; refine (HS _ (by assumption)).mono ?_; rintro e w' ⟨rfl, hb⟩)
      | (go_at_call 58; refine (HN _ (by assumption)).mono ?_; rintro e w' ⟨rfl, hb⟩))
    go_ret
    exact ⟨ret_int (by decide), by first | assumption | exact BW.new (by assumption) _⟩
set_option maxHeartbeats 8000000 in
theorem oc_e (op : Int) (h : 41 ≤ op ∧ op ≤ 49) : OcAt op := by
  intro w
  have HS := fun w1 h => sort_bw w w1 h op (by omega) (by omega)
  have HN := fun w1 h => name_bw w w1 h op (by omega) (by omega)
  have HB : BW w w := Below.refl _ _
  rcases nfs_e h with ⟨rfl, hs, hn, e0⟩ | ⟨rfl, hs, hn, e0⟩ | ⟨rfl, hs, hn, e0⟩ | ⟨rfl, hs, hn, e0⟩ | ⟨rfl, hs, hn, e0⟩ | ⟨rfl, hs, hn, e0⟩ | ⟨rfl, hs, hn, e0⟩ | ⟨rfl, hs, hn, e0⟩ | ⟨rfl, hs, hn, e0⟩
  all_goals
    rw [hs] at HS
    rw [hn] at HN
    clear hs hn h
    go_enter Tryz.func73, Tryz.ntmps73
    go_wp2_with (first
      | (go_at_call 46; refine (HS _ (by assumption)).mono ?_; rintro e w' ⟨rfl, hb⟩)
      | (go_at_call 58; refine (HN _ (by assumption)).mono ?_; rintro e w' ⟨rfl, hb⟩))
    go_ret
    exact ⟨ret_int (by decide), by first | assumption | exact BW.new (by assumption) _⟩
set_option maxHeartbeats 8000000 in
theorem oc_f (op : Int) (h : 50 ≤ op ∧ op ≤ 57) : OcAt op := by
  intro w
  have HS := fun w1 h => sort_bw w w1 h op (by omega) (by omega)
  have HN := fun w1 h => name_bw w w1 h op (by omega) (by omega)
  have HB : BW w w := Below.refl _ _
  rcases nfs_f h with ⟨rfl, hs, hn, e0⟩ | ⟨rfl, hs, hn, e0⟩ | ⟨rfl, hs, hn, e0⟩ | ⟨rfl, hs, hn, e0⟩ | ⟨rfl, hs, hn, e0⟩ | ⟨rfl, hs, hn, e0⟩ | ⟨rfl, hs, hn, e0⟩ | ⟨rfl, hs, hn, e0⟩
  all_goals
    rw [hs] at HS
    rw [hn] at HN
    clear hs hn h
    go_enter Tryz.func73, Tryz.ntmps73
    go_wp2_with (first
      | (go_at_call 46; refine (HS _ (by assumption)).mono ?_; rintro e w' ⟨rfl, hb⟩)
      | (go_at_call 58; refine (HN _ (by assumption)).mono ?_; rintro e w' ⟨rfl, hb⟩))
    go_ret
    exact ⟨ret_int (by decide), by first | assumption | exact BW.new (by assumption) _⟩
set_option maxHeartbeats 8000000 in
theorem oc_g (op : Int) (h : 58 ≤ op ∧ op ≤ 66) : OcAt op := by
  intro w
  have HS := fun w1 h => sort_bw w w1 h op (by omega) (by omega)
  have HN := fun w1 h => name_bw w w1 h op (by omega) (by omega)
  have HB : BW w w := Below.refl _ _
  rcases nfs_g h with ⟨rfl, hs, hn, e0⟩ | ⟨rfl, hs, hn, e0⟩ | ⟨rfl, hs, hn, e0⟩ | ⟨rfl, hs, hn, e0⟩ | ⟨rfl, hs, hn, e0⟩ | ⟨rfl, hs, hn, e0⟩ | ⟨rfl, hs, hn, e0⟩ | ⟨rfl, hs, hn, e0⟩ | ⟨rfl, hs, hn, e0⟩
  all_goals
    rw [hs] at HS
    rw [hn] at HN
    clear hs hn h
    go_enter Tryz.func73, Tryz.ntmps73
    go_wp2_with (first
      | (go_at_call 46; refine (HS _ (by assumption)).mono ?_; rintro e w' ⟨rfl, hb⟩)
      | (go_at_call 58; refine (HN _ (by assumption)).mono ?_; rintro e w' ⟨rfl, hb⟩))
    go_ret
    exact ⟨ret_int (by decide), by first | assumption | exact BW.new (by assumption) _⟩
set_option maxHeartbeats 8000000 in
theorem oc_h (op : Int) (h : 67 ≤ op ∧ op ≤ 75) : OcAt op := by
  intro w
  have HS := fun w1 h => sort_bw w w1 h op (by omega) (by omega)
  have HN := fun w1 h => name_bw w w1 h op (by omega) (by omega)
  have HB : BW w w := Below.refl _ _
  rcases nfs_h h with ⟨rfl, hs, hn, e0⟩ | ⟨rfl, hs, hn, e0⟩ | ⟨rfl, hs, hn, e0⟩ | ⟨rfl, hs, hn, e0⟩ | ⟨rfl, hs, hn, e0⟩ | ⟨rfl, hs, hn, e0⟩ | ⟨rfl, hs, hn, e0⟩ | ⟨rfl, hs, hn, e0⟩ | ⟨rfl, hs, hn, e0⟩
  all_goals
    rw [hs] at HS
    rw [hn] at HN
    clear hs hn h
    go_enter Tryz.func73, Tryz.ntmps73
    go_wp2_with (first
      | (go_at_call 46; refine (HS _ (by assumption)).mono ?_; rintro e w' ⟨rfl, hb⟩)
      | (go_at_call 58; refine (HN _ (by assumption)).mono ?_; rintro e w' ⟨rfl, hb⟩))
    go_ret
    exact ⟨ret_int (by decide), by first | assumption | exact BW.new (by assumption) _⟩
theorem oc_any (op : Int) (h : 1 ≤ op ∧ op ≤ 75) : OcAt op := by
  by_cases ha : op ≤ 10
  · exact oc_a op ⟨by omega, ha⟩
  by_cases hb : op ≤ 21
  · exact oc_b op ⟨by omega, hb⟩
  by_cases hc : op ≤ 30
  · exact oc_c op ⟨by omega, hc⟩
  by_cases hd : op ≤ 40
  · exact oc_d op ⟨by omega, hd⟩
  by_cases he : op ≤ 49
  · exact oc_e op ⟨by omega, he⟩
  by_cases hf : op ≤ 57
  · exact oc_f op ⟨by omega, hf⟩
  by_cases hg : op ≤ 66
  · exact oc_g op ⟨by omega, hg⟩
  exact oc_h op ⟨by omega, h.2⟩
end Go.Proofs.YtolmecnjolfjgaaGreatDoor
namespace Go.Proofs.YtolmecnjolfjgaaGreatDoor
open Go.RowKit

def FcAt (op : Int) : Prop := ∀ w : World, Calls Tryz.prog 74 #[.int .i64 op] w fun e w' => e = .returned (.int .u32 (f3V op)) ∧ BW w w'
set_option maxHeartbeats 8000000 in
theorem fc_a (op : Int) (h : 1 ≤ op ∧ op ≤ 10) : FcAt op := by
  intro w
  have HS := fun w1 h => sort_bw w w1 h op (by omega) (by omega)
  have HN := fun w1 h => name_bw w w1 h op (by omega) (by omega)
  have HB : BW w w := Below.refl _ _
  rcases nfs_a h with ⟨rfl, hs, hn, e0⟩ | ⟨rfl, hs, hn, e0⟩ | ⟨rfl, hs, hn, e0⟩ | ⟨rfl, hs, hn, e0⟩ | ⟨rfl, hs, hn, e0⟩ | ⟨rfl, hs, hn, e0⟩ | ⟨rfl, hs, hn, e0⟩ | ⟨rfl, hs, hn, e0⟩ | ⟨rfl, hs, hn, e0⟩ | ⟨rfl, hs, hn, e0⟩
  all_goals
    rw [hs] at HS
    rw [hn] at HN
    clear hs hn h
    go_enter Tryz.func74, Tryz.ntmps74
    go_wp2_with (first
      | (go_at_call 46; refine (HS _ (by assumption)).mono ?_; rintro e w' ⟨rfl, hb⟩)
      | (go_at_call 58; refine (HN _ (by assumption)).mono ?_; rintro e w' ⟨rfl, hb⟩))
    go_ret
    exact ⟨ret_int (by decide), by first | assumption | exact BW.new (by assumption) _⟩
set_option maxHeartbeats 8000000 in
theorem fc_b (op : Int) (h : 11 ≤ op ∧ op ≤ 21) : FcAt op := by
  intro w
  have HS := fun w1 h => sort_bw w w1 h op (by omega) (by omega)
  have HN := fun w1 h => name_bw w w1 h op (by omega) (by omega)
  have HB : BW w w := Below.refl _ _
  rcases nfs_b h with ⟨rfl, hs, hn, e0⟩ | ⟨rfl, hs, hn, e0⟩ | ⟨rfl, hs, hn, e0⟩ | ⟨rfl, hs, hn, e0⟩ | ⟨rfl, hs, hn, e0⟩ | ⟨rfl, hs, hn, e0⟩ | ⟨rfl, hs, hn, e0⟩ | ⟨rfl, hs, hn, e0⟩ | ⟨rfl, hs, hn, e0⟩ | ⟨rfl, hs, hn, e0⟩ | ⟨rfl, hs, hn, e0⟩
  all_goals
    rw [hs] at HS
    rw [hn] at HN
    clear hs hn h
    go_enter Tryz.func74, Tryz.ntmps74
    go_wp2_with (first
      | (go_at_call 46; refine (HS _ (by assumption)).mono ?_; rintro e w' ⟨rfl, hb⟩)
      | (go_at_call 58; refine (HN _ (by assumption)).mono ?_; rintro e w' ⟨rfl, hb⟩))
    go_ret
    exact ⟨ret_int (by decide), by first | assumption | exact BW.new (by assumption) _⟩
set_option maxHeartbeats 8000000 in
theorem fc_c (op : Int) (h : 22 ≤ op ∧ op ≤ 30) : FcAt op := by
  intro w
  have HS := fun w1 h => sort_bw w w1 h op (by omega) (by omega)
  have HN := fun w1 h => name_bw w w1 h op (by omega) (by omega)
  have HB : BW w w := Below.refl _ _
  rcases nfs_c h with ⟨rfl, hs, hn, e0⟩ | ⟨rfl, hs, hn, e0⟩ | ⟨rfl, hs, hn, e0⟩ | ⟨rfl, hs, hn, e0⟩ | ⟨rfl, hs, hn, e0⟩ | ⟨rfl, hs, hn, e0⟩ | ⟨rfl, hs, hn, e0⟩ | ⟨rfl, hs, hn, e0⟩ | ⟨rfl, hs, hn, e0⟩
  all_goals
    rw [hs] at HS
    rw [hn] at HN
    clear hs hn h
    go_enter Tryz.func74, Tryz.ntmps74
    go_wp2_with (first
      | (go_at_call 46; refine (HS _ (by assumption)).mono ?_; rintro e w' ⟨rfl, hb⟩)
      | (go_at_call 58; refine (HN _ (by assumption)).mono ?_; rintro e w' ⟨rfl, hb⟩))
    go_ret
    exact ⟨ret_int (by decide), by first | assumption | exact BW.new (by assumption) _⟩
set_option maxHeartbeats 8000000 in
theorem fc_d (op : Int) (h : 31 ≤ op ∧ op ≤ 40) : FcAt op := by
  intro w
  have HS := fun w1 h => sort_bw w w1 h op (by omega) (by omega)
  have HN := fun w1 h => name_bw w w1 h op (by omega) (by omega)
  have HB : BW w w := Below.refl _ _
  rcases nfs_d h with ⟨rfl, hs, hn, e0⟩ | ⟨rfl, hs, hn, e0⟩ | ⟨rfl, hs, hn, e0⟩ | ⟨rfl, hs, hn, e0⟩ | ⟨rfl, hs, hn, e0⟩ | ⟨rfl, hs, hn, e0⟩ | ⟨rfl, hs, hn, e0⟩ | ⟨rfl, hs, hn, e0⟩ | ⟨rfl, hs, hn, e0⟩ | ⟨rfl, hs, hn, e0⟩
  all_goals
    rw [hs] at HS
    rw [hn] at HN
    clear hs hn h
    go_enter Tryz.func74, Tryz.ntmps74
    go_wp2_with (first
      | (go_at_call 46; refine (HS _ (by assumption)).mono ?_; rintro e w' ⟨rfl, hb⟩)
      | (go_at_call 58; refine (HN _ (by assumption)).mono ?_; rintro e w' ⟨rfl, hb⟩))
    go_ret
    exact ⟨ret_int (by decide), by first | assumption | exact BW.new (by assumption) _⟩
set_option maxHeartbeats 8000000 in
theorem fc_e (op : Int) (h : 41 ≤ op ∧ op ≤ 49) : FcAt op := by
  intro w
  have HS := fun w1 h => sort_bw w w1 h op (by omega) (by omega)
  have HN := fun w1 h => name_bw w w1 h op (by omega) (by omega)
  have HB : BW w w := Below.refl _ _
  rcases nfs_e h with ⟨rfl, hs, hn, e0⟩ | ⟨rfl, hs, hn, e0⟩ | ⟨rfl, hs, hn, e0⟩ | ⟨rfl, hs, hn, e0⟩ | ⟨rfl, hs, hn, e0⟩ | ⟨rfl, hs, hn, e0⟩ | ⟨rfl, hs, hn, e0⟩ | ⟨rfl, hs, hn, e0⟩ | ⟨rfl, hs, hn, e0⟩
  all_goals
    rw [hs] at HS
    rw [hn] at HN
    clear hs hn h
    go_enter Tryz.func74, Tryz.ntmps74
    go_wp2_with (first
      | (go_at_call 46; refine (HS _ (by assumption)).mono ?_; rintro e w' ⟨rfl, hb⟩)
      | (go_at_call 58; refine (HN _ (by assumption)).mono ?_; rintro e w' ⟨rfl, hb⟩))
    go_ret
    exact ⟨ret_int (by decide), by first | assumption | exact BW.new (by assumption) _⟩
set_option maxHeartbeats 8000000 in
theorem fc_f (op : Int) (h : 50 ≤ op ∧ op ≤ 57) : FcAt op := by
  intro w
  have HS := fun w1 h => sort_bw w w1 h op (by omega) (by omega)
  have HN := fun w1 h => name_bw w w1 h op (by omega) (by omega)
  have HB : BW w w := Below.refl _ _
  rcases nfs_f h with ⟨rfl, hs, hn, e0⟩ | ⟨rfl, hs, hn, e0⟩ | ⟨rfl, hs, hn, e0⟩ | ⟨rfl, hs, hn, e0⟩ | ⟨rfl, hs, hn, e0⟩ | ⟨rfl, hs, hn, e0⟩ | ⟨rfl, hs, hn, e0⟩ | ⟨rfl, hs, hn, e0⟩
  all_goals
    rw [hs] at HS
    rw [hn] at HN
    clear hs hn h
    go_enter Tryz.func74, Tryz.ntmps74
    go_wp2_with (first
      | (go_at_call 46; refine (HS _ (by assumption)).mono ?_; rintro e w' ⟨rfl, hb⟩)
      | (go_at_call 58; refine (HN _ (by assumption)).mono ?_; rintro e w' ⟨rfl, hb⟩))
    go_ret
    exact ⟨ret_int (by decide), by first | assumption | exact BW.new (by assumption) _⟩
set_option maxHeartbeats 8000000 in
theorem fc_g (op : Int) (h : 58 ≤ op ∧ op ≤ 66) : FcAt op := by
  intro w
  have HS := fun w1 h => sort_bw w w1 h op (by omega) (by omega)
  have HN := fun w1 h => name_bw w w1 h op (by omega) (by omega)
  have HB : BW w w := Below.refl _ _
  rcases nfs_g h with ⟨rfl, hs, hn, e0⟩ | ⟨rfl, hs, hn, e0⟩ | ⟨rfl, hs, hn, e0⟩ | ⟨rfl, hs, hn, e0⟩ | ⟨rfl, hs, hn, e0⟩ | ⟨rfl, hs, hn, e0⟩ | ⟨rfl, hs, hn, e0⟩ | ⟨rfl, hs, hn, e0⟩ | ⟨rfl, hs, hn, e0⟩
  all_goals
    rw [hs] at HS
    rw [hn] at HN
    clear hs hn h
    go_enter Tryz.func74, Tryz.ntmps74
    go_wp2_with (first
      | (go_at_call 46; refine (HS _ (by assumption)).mono ?_; rintro e w' ⟨rfl, hb⟩)
      | (go_at_call 58; refine (HN _ (by assumption)).mono ?_; rintro e w' ⟨rfl, hb⟩))
    go_ret
    exact ⟨ret_int (by decide), by first | assumption | exact BW.new (by assumption) _⟩
set_option maxHeartbeats 8000000 in
theorem fc_h (op : Int) (h : 67 ≤ op ∧ op ≤ 75) : FcAt op := by
  intro w
  have HS := fun w1 h => sort_bw w w1 h op (by omega) (by omega)
  have HN := fun w1 h => name_bw w w1 h op (by omega) (by omega)
  have HB : BW w w := Below.refl _ _
  rcases nfs_h h with ⟨rfl, hs, hn, e0⟩ | ⟨rfl, hs, hn, e0⟩ | ⟨rfl, hs, hn, e0⟩ | ⟨rfl, hs, hn, e0⟩ | ⟨rfl, hs, hn, e0⟩ | ⟨rfl, hs, hn, e0⟩ | ⟨rfl, hs, hn, e0⟩ | ⟨rfl, hs, hn, e0⟩ | ⟨rfl, hs, hn, e0⟩
  all_goals
    rw [hs] at HS
    rw [hn] at HN
    clear hs hn h
    go_enter Tryz.func74, Tryz.ntmps74
    go_wp2_with (first
      | (go_at_call 46; refine (HS _ (by assumption)).mono ?_; rintro e w' ⟨rfl, hb⟩)
      | (go_at_call 58; refine (HN _ (by assumption)).mono ?_; rintro e w' ⟨rfl, hb⟩))
    go_ret
    exact ⟨ret_int (by decide), by first | assumption | exact BW.new (by assumption) _⟩
theorem fc_any (op : Int) (h : 1 ≤ op ∧ op ≤ 75) : FcAt op := by
  by_cases ha : op ≤ 10
  · exact fc_a op ⟨by omega, ha⟩
  by_cases hb : op ≤ 21
  · exact fc_b op ⟨by omega, hb⟩
  by_cases hc : op ≤ 30
  · exact fc_c op ⟨by omega, hc⟩
  by_cases hd : op ≤ 40
  · exact fc_d op ⟨by omega, hd⟩
  by_cases he : op ≤ 49
  · exact fc_e op ⟨by omega, he⟩
  by_cases hf : op ≤ 57
  · exact fc_f op ⟨by omega, hf⟩
  by_cases hg : op ≤ 66
  · exact fc_g op ⟨by omega, hg⟩
  exact fc_h op ⟨by omega, h.2⟩
end Go.Proofs.YtolmecnjolfjgaaGreatDoor
namespace Go.Proofs.YtolmecnjolfjgaaGreatDoor
open Go.RowKit

def TuAt (op : Int) : Prop := ∀ w : World, Calls Tryz.prog 75 #[.int .i64 op] w fun e w' => e = .returned (.bool (turB op)) ∧ BW w w'
def ShAt (op : Int) : Prop := ∀ w : World, Calls Tryz.prog 72 #[.int .i64 op] w fun e w' => e = .returned (.int .i64 (shV op)) ∧ BW w w'
set_option maxHeartbeats 8000000 in
theorem tu_a (op : Int) (h : 1 ≤ op ∧ op ≤ 10) : TuAt op := by
  intro w
  have HS := fun w1 h => sort_bw w w1 h op (by omega) (by omega)
  have HN := fun w1 h => name_bw w w1 h op (by omega) (by omega)
  have HB : BW w w := Below.refl _ _
  rcases nfs_a h with ⟨rfl, hs, hn, e0⟩ | ⟨rfl, hs, hn, e0⟩ | ⟨rfl, hs, hn, e0⟩ | ⟨rfl, hs, hn, e0⟩ | ⟨rfl, hs, hn, e0⟩ | ⟨rfl, hs, hn, e0⟩ | ⟨rfl, hs, hn, e0⟩ | ⟨rfl, hs, hn, e0⟩ | ⟨rfl, hs, hn, e0⟩ | ⟨rfl, hs, hn, e0⟩
  all_goals
    rw [hs] at HS
    rw [hn] at HN
    clear hs hn h
    go_enter Tryz.func75, Tryz.ntmps75
    go_wp2_with (first
      | (go_at_call 46; refine (HS _ (by assumption)).mono ?_; rintro e w' ⟨rfl, hb⟩)
      | (go_at_call 58; refine (HN _ (by assumption)).mono ?_; rintro e w' ⟨rfl, hb⟩))
    go_ret
    exact ⟨ret_bool (by decide), by first | assumption | exact BW.new (by assumption) _⟩
set_option maxHeartbeats 8000000 in
theorem tu_b (op : Int) (h : 11 ≤ op ∧ op ≤ 21) : TuAt op := by
  intro w
  have HS := fun w1 h => sort_bw w w1 h op (by omega) (by omega)
  have HN := fun w1 h => name_bw w w1 h op (by omega) (by omega)
  have HB : BW w w := Below.refl _ _
  rcases nfs_b h with ⟨rfl, hs, hn, e0⟩ | ⟨rfl, hs, hn, e0⟩ | ⟨rfl, hs, hn, e0⟩ | ⟨rfl, hs, hn, e0⟩ | ⟨rfl, hs, hn, e0⟩ | ⟨rfl, hs, hn, e0⟩ | ⟨rfl, hs, hn, e0⟩ | ⟨rfl, hs, hn, e0⟩ | ⟨rfl, hs, hn, e0⟩ | ⟨rfl, hs, hn, e0⟩ | ⟨rfl, hs, hn, e0⟩
  all_goals
    rw [hs] at HS
    rw [hn] at HN
    clear hs hn h
    go_enter Tryz.func75, Tryz.ntmps75
    go_wp2_with (first
      | (go_at_call 46; refine (HS _ (by assumption)).mono ?_; rintro e w' ⟨rfl, hb⟩)
      | (go_at_call 58; refine (HN _ (by assumption)).mono ?_; rintro e w' ⟨rfl, hb⟩))
    go_ret
    exact ⟨ret_bool (by decide), by first | assumption | exact BW.new (by assumption) _⟩
set_option maxHeartbeats 8000000 in
theorem tu_c (op : Int) (h : 22 ≤ op ∧ op ≤ 30) : TuAt op := by
  intro w
  have HS := fun w1 h => sort_bw w w1 h op (by omega) (by omega)
  have HN := fun w1 h => name_bw w w1 h op (by omega) (by omega)
  have HB : BW w w := Below.refl _ _
  rcases nfs_c h with ⟨rfl, hs, hn, e0⟩ | ⟨rfl, hs, hn, e0⟩ | ⟨rfl, hs, hn, e0⟩ | ⟨rfl, hs, hn, e0⟩ | ⟨rfl, hs, hn, e0⟩ | ⟨rfl, hs, hn, e0⟩ | ⟨rfl, hs, hn, e0⟩ | ⟨rfl, hs, hn, e0⟩ | ⟨rfl, hs, hn, e0⟩
  all_goals
    rw [hs] at HS
    rw [hn] at HN
    clear hs hn h
    go_enter Tryz.func75, Tryz.ntmps75
    go_wp2_with (first
      | (go_at_call 46; refine (HS _ (by assumption)).mono ?_; rintro e w' ⟨rfl, hb⟩)
      | (go_at_call 58; refine (HN _ (by assumption)).mono ?_; rintro e w' ⟨rfl, hb⟩))
    go_ret
    exact ⟨ret_bool (by decide), by first | assumption | exact BW.new (by assumption) _⟩
set_option maxHeartbeats 8000000 in
theorem tu_d (op : Int) (h : 31 ≤ op ∧ op ≤ 40) : TuAt op := by
  intro w
  have HS := fun w1 h => sort_bw w w1 h op (by omega) (by omega)
  have HN := fun w1 h => name_bw w w1 h op (by omega) (by omega)
  have HB : BW w w := Below.refl _ _
  rcases nfs_d h with ⟨rfl, hs, hn, e0⟩ | ⟨rfl, hs, hn, e0⟩ | ⟨rfl, hs, hn, e0⟩ | ⟨rfl, hs, hn, e0⟩ | ⟨rfl, hs, hn, e0⟩ | ⟨rfl, hs, hn, e0⟩ | ⟨rfl, hs, hn, e0⟩ | ⟨rfl, hs, hn, e0⟩ | ⟨rfl, hs, hn, e0⟩ | ⟨rfl, hs, hn, e0⟩
  all_goals
    rw [hs] at HS
    rw [hn] at HN
    clear hs hn h
    go_enter Tryz.func75, Tryz.ntmps75
    go_wp2_with (first
      | (go_at_call 46; refine (HS _ (by assumption)).mono ?_; rintro e w' ⟨rfl, hb⟩)
      | (go_at_call 58; refine (HN _ (by assumption)).mono ?_; rintro e w' ⟨rfl, hb⟩))
    go_ret
    exact ⟨ret_bool (by decide), by first | assumption | exact BW.new (by assumption) _⟩
set_option maxHeartbeats 8000000 in
theorem tu_e (op : Int) (h : 41 ≤ op ∧ op ≤ 49) : TuAt op := by
  intro w
  have HS := fun w1 h => sort_bw w w1 h op (by omega) (by omega)
  have HN := fun w1 h => name_bw w w1 h op (by omega) (by omega)
  have HB : BW w w := Below.refl _ _
  rcases nfs_e h with ⟨rfl, hs, hn, e0⟩ | ⟨rfl, hs, hn, e0⟩ | ⟨rfl, hs, hn, e0⟩ | ⟨rfl, hs, hn, e0⟩ | ⟨rfl, hs, hn, e0⟩ | ⟨rfl, hs, hn, e0⟩ | ⟨rfl, hs, hn, e0⟩ | ⟨rfl, hs, hn, e0⟩ | ⟨rfl, hs, hn, e0⟩
  all_goals
    rw [hs] at HS
    rw [hn] at HN
    clear hs hn h
    go_enter Tryz.func75, Tryz.ntmps75
    go_wp2_with (first
      | (go_at_call 46; refine (HS _ (by assumption)).mono ?_; rintro e w' ⟨rfl, hb⟩)
      | (go_at_call 58; refine (HN _ (by assumption)).mono ?_; rintro e w' ⟨rfl, hb⟩))
    go_ret
    exact ⟨ret_bool (by decide), by first | assumption | exact BW.new (by assumption) _⟩
set_option maxHeartbeats 8000000 in
theorem tu_f (op : Int) (h : 50 ≤ op ∧ op ≤ 57) : TuAt op := by
  intro w
  have HS := fun w1 h => sort_bw w w1 h op (by omega) (by omega)
  have HN := fun w1 h => name_bw w w1 h op (by omega) (by omega)
  have HB : BW w w := Below.refl _ _
  rcases nfs_f h with ⟨rfl, hs, hn, e0⟩ | ⟨rfl, hs, hn, e0⟩ | ⟨rfl, hs, hn, e0⟩ | ⟨rfl, hs, hn, e0⟩ | ⟨rfl, hs, hn, e0⟩ | ⟨rfl, hs, hn, e0⟩ | ⟨rfl, hs, hn, e0⟩ | ⟨rfl, hs, hn, e0⟩
  all_goals
    rw [hs] at HS
    rw [hn] at HN
    clear hs hn h
    go_enter Tryz.func75, Tryz.ntmps75
    go_wp2_with (first
      | (go_at_call 46; refine (HS _ (by assumption)).mono ?_; rintro e w' ⟨rfl, hb⟩)
      | (go_at_call 58; refine (HN _ (by assumption)).mono ?_; rintro e w' ⟨rfl, hb⟩))
    go_ret
    exact ⟨ret_bool (by decide), by first | assumption | exact BW.new (by assumption) _⟩
set_option maxHeartbeats 8000000 in
theorem tu_g (op : Int) (h : 58 ≤ op ∧ op ≤ 66) : TuAt op := by
  intro w
  have HS := fun w1 h => sort_bw w w1 h op (by omega) (by omega)
  have HN := fun w1 h => name_bw w w1 h op (by omega) (by omega)
  have HB : BW w w := Below.refl _ _
  rcases nfs_g h with ⟨rfl, hs, hn, e0⟩ | ⟨rfl, hs, hn, e0⟩ | ⟨rfl, hs, hn, e0⟩ | ⟨rfl, hs, hn, e0⟩ | ⟨rfl, hs, hn, e0⟩ | ⟨rfl, hs, hn, e0⟩ | ⟨rfl, hs, hn, e0⟩ | ⟨rfl, hs, hn, e0⟩ | ⟨rfl, hs, hn, e0⟩
  all_goals
    rw [hs] at HS
    rw [hn] at HN
    clear hs hn h
    go_enter Tryz.func75, Tryz.ntmps75
    go_wp2_with (first
      | (go_at_call 46; refine (HS _ (by assumption)).mono ?_; rintro e w' ⟨rfl, hb⟩)
      | (go_at_call 58; refine (HN _ (by assumption)).mono ?_; rintro e w' ⟨rfl, hb⟩))
    go_ret
    exact ⟨ret_bool (by decide), by first | assumption | exact BW.new (by assumption) _⟩
set_option maxHeartbeats 8000000 in
theorem tu_h (op : Int) (h : 67 ≤ op ∧ op ≤ 75) : TuAt op := by
  intro w
  have HS := fun w1 h => sort_bw w w1 h op (by omega) (by omega)
  have HN := fun w1 h => name_bw w w1 h op (by omega) (by omega)
  have HB : BW w w := Below.refl _ _
  rcases nfs_h h with ⟨rfl, hs, hn, e0⟩ | ⟨rfl, hs, hn, e0⟩ | ⟨rfl, hs, hn, e0⟩ | ⟨rfl, hs, hn, e0⟩ | ⟨rfl, hs, hn, e0⟩ | ⟨rfl, hs, hn, e0⟩ | ⟨rfl, hs, hn, e0⟩ | ⟨rfl, hs, hn, e0⟩ | ⟨rfl, hs, hn, e0⟩
  all_goals
    rw [hs] at HS
    rw [hn] at HN
    clear hs hn h
    go_enter Tryz.func75, Tryz.ntmps75
    go_wp2_with (first
      | (go_at_call 46; refine (HS _ (by assumption)).mono ?_; rintro e w' ⟨rfl, hb⟩)
      | (go_at_call 58; refine (HN _ (by assumption)).mono ?_; rintro e w' ⟨rfl, hb⟩))
    go_ret
    exact ⟨ret_bool (by decide), by first | assumption | exact BW.new (by assumption) _⟩
theorem tu_any (op : Int) (h : 1 ≤ op ∧ op ≤ 75) : TuAt op := by
  by_cases ha : op ≤ 10
  · exact tu_a op ⟨by omega, ha⟩
  by_cases hb : op ≤ 21
  · exact tu_b op ⟨by omega, hb⟩
  by_cases hc : op ≤ 30
  · exact tu_c op ⟨by omega, hc⟩
  by_cases hd : op ≤ 40
  · exact tu_d op ⟨by omega, hd⟩
  by_cases he : op ≤ 49
  · exact tu_e op ⟨by omega, he⟩
  by_cases hf : op ≤ 57
  · exact tu_f op ⟨by omega, hf⟩
  by_cases hg : op ≤ 66
  · exact tu_g op ⟨by omega, hg⟩
  exact tu_h op ⟨by omega, h.2⟩
set_option maxHeartbeats 8000000 in
theorem sh_a (op : Int) (h : 1 ≤ op ∧ op ≤ 10) : ShAt op := by
  intro w
  have HS := fun w1 h => sort_bw w w1 h op (by omega) (by omega)
  have HN := fun w1 h => name_bw w w1 h op (by omega) (by omega)
  have HB : BW w w := Below.refl _ _
  rcases nfs_a h with ⟨rfl, hs, hn, e0⟩ | ⟨rfl, hs, hn, e0⟩ | ⟨rfl, hs, hn, e0⟩ | ⟨rfl, hs, hn, e0⟩ | ⟨rfl, hs, hn, e0⟩ | ⟨rfl, hs, hn, e0⟩ | ⟨rfl, hs, hn, e0⟩ | ⟨rfl, hs, hn, e0⟩ | ⟨rfl, hs, hn, e0⟩ | ⟨rfl, hs, hn, e0⟩
  all_goals
    rw [hs] at HS
    rw [hn] at HN
    clear hs hn h
    go_enter Tryz.func72, Tryz.ntmps72
    go_wp2_with (first
      | (go_at_call 46; refine (HS _ (by assumption)).mono ?_; rintro e w' ⟨rfl, hb⟩)
      | (go_at_call 58; refine (HN _ (by assumption)).mono ?_; rintro e w' ⟨rfl, hb⟩))
    go_ret
    exact ⟨ret_int (by decide), by first | assumption | exact BW.new (by assumption) _⟩
set_option maxHeartbeats 8000000 in
theorem sh_b (op : Int) (h : 11 ≤ op ∧ op ≤ 21) : ShAt op := by
  intro w
  have HS := fun w1 h => sort_bw w w1 h op (by omega) (by omega)
  have HN := fun w1 h => name_bw w w1 h op (by omega) (by omega)
  have HB : BW w w := Below.refl _ _
  rcases nfs_b h with ⟨rfl, hs, hn, e0⟩ | ⟨rfl, hs, hn, e0⟩ | ⟨rfl, hs, hn, e0⟩ | ⟨rfl, hs, hn, e0⟩ | ⟨rfl, hs, hn, e0⟩ | ⟨rfl, hs, hn, e0⟩ | ⟨rfl, hs, hn, e0⟩ | ⟨rfl, hs, hn, e0⟩ | ⟨rfl, hs, hn, e0⟩ | ⟨rfl, hs, hn, e0⟩ | ⟨rfl, hs, hn, e0⟩
  all_goals
    rw [hs] at HS
    rw [hn] at HN
    clear hs hn h
    go_enter Tryz.func72, Tryz.ntmps72
    go_wp2_with (first
      | (go_at_call 46; refine (HS _ (by assumption)).mono ?_; rintro e w' ⟨rfl, hb⟩)
      | (go_at_call 58; refine (HN _ (by assumption)).mono ?_; rintro e w' ⟨rfl, hb⟩))
    go_ret
    exact ⟨ret_int (by decide), by first | assumption | exact BW.new (by assumption) _⟩
set_option maxHeartbeats 8000000 in
theorem sh_c (op : Int) (h : 22 ≤ op ∧ op ≤ 30) : ShAt op := by
  intro w
  have HS := fun w1 h => sort_bw w w1 h op (by omega) (by omega)
  have HN := fun w1 h => name_bw w w1 h op (by omega) (by omega)
  have HB : BW w w := Below.refl _ _
  rcases nfs_c h with ⟨rfl, hs, hn, e0⟩ | ⟨rfl, hs, hn, e0⟩ | ⟨rfl, hs, hn, e0⟩ | ⟨rfl, hs, hn, e0⟩ | ⟨rfl, hs, hn, e0⟩ | ⟨rfl, hs, hn, e0⟩ | ⟨rfl, hs, hn, e0⟩ | ⟨rfl, hs, hn, e0⟩ | ⟨rfl, hs, hn, e0⟩
  all_goals
    rw [hs] at HS
    rw [hn] at HN
    clear hs hn h
    go_enter Tryz.func72, Tryz.ntmps72
    go_wp2_with (first
      | (go_at_call 46; refine (HS _ (by assumption)).mono ?_; rintro e w' ⟨rfl, hb⟩)
      | (go_at_call 58; refine (HN _ (by assumption)).mono ?_; rintro e w' ⟨rfl, hb⟩))
    go_ret
    exact ⟨ret_int (by decide), by first | assumption | exact BW.new (by assumption) _⟩
set_option maxHeartbeats 8000000 in
theorem sh_d (op : Int) (h : 31 ≤ op ∧ op ≤ 40) : ShAt op := by
  intro w
  have HS := fun w1 h => sort_bw w w1 h op (by omega) (by omega)
  have HN := fun w1 h => name_bw w w1 h op (by omega) (by omega)
  have HB : BW w w := Below.refl _ _
  rcases nfs_d h with ⟨rfl, hs, hn, e0⟩ | ⟨rfl, hs, hn, e0⟩ | ⟨rfl, hs, hn, e0⟩ | ⟨rfl, hs, hn, e0⟩ | ⟨rfl, hs, hn, e0⟩ | ⟨rfl, hs, hn, e0⟩ | ⟨rfl, hs, hn, e0⟩ | ⟨rfl, hs, hn, e0⟩ | ⟨rfl, hs, hn, e0⟩ | ⟨rfl, hs, hn, e0⟩
  all_goals
    rw [hs] at HS
    rw [hn] at HN
    clear hs hn h
    go_enter Tryz.func72, Tryz.ntmps72
    go_wp2_with (first
      | (go_at_call 46; refine (HS _ (by assumption)).mono ?_; rintro e w' ⟨rfl, hb⟩)
      | (go_at_call 58; refine (HN _ (by assumption)).mono ?_; rintro e w' ⟨rfl, hb⟩))
    go_ret
    exact ⟨ret_int (by decide), by first | assumption | exact BW.new (by assumption) _⟩
set_option maxHeartbeats 8000000 in
theorem sh_e (op : Int) (h : 41 ≤ op ∧ op ≤ 49) : ShAt op := by
  intro w
  have HS := fun w1 h => sort_bw w w1 h op (by omega) (by omega)
  have HN := fun w1 h => name_bw w w1 h op (by omega) (by omega)
  have HB : BW w w := Below.refl _ _
  rcases nfs_e h with ⟨rfl, hs, hn, e0⟩ | ⟨rfl, hs, hn, e0⟩ | ⟨rfl, hs, hn, e0⟩ | ⟨rfl, hs, hn, e0⟩ | ⟨rfl, hs, hn, e0⟩ | ⟨rfl, hs, hn, e0⟩ | ⟨rfl, hs, hn, e0⟩ | ⟨rfl, hs, hn, e0⟩ | ⟨rfl, hs, hn, e0⟩
  all_goals
    rw [hs] at HS
    rw [hn] at HN
    clear hs hn h
    go_enter Tryz.func72, Tryz.ntmps72
    go_wp2_with (first
      | (go_at_call 46; refine (HS _ (by assumption)).mono ?_; rintro e w' ⟨rfl, hb⟩)
      | (go_at_call 58; refine (HN _ (by assumption)).mono ?_; rintro e w' ⟨rfl, hb⟩))
    go_ret
    exact ⟨ret_int (by decide), by first | assumption | exact BW.new (by assumption) _⟩
set_option maxHeartbeats 8000000 in
theorem sh_f (op : Int) (h : 50 ≤ op ∧ op ≤ 57) : ShAt op := by
  intro w
  have HS := fun w1 h => sort_bw w w1 h op (by omega) (by omega)
  have HN := fun w1 h => name_bw w w1 h op (by omega) (by omega)
  have HB : BW w w := Below.refl _ _
  rcases nfs_f h with ⟨rfl, hs, hn, e0⟩ | ⟨rfl, hs, hn, e0⟩ | ⟨rfl, hs, hn, e0⟩ | ⟨rfl, hs, hn, e0⟩ | ⟨rfl, hs, hn, e0⟩ | ⟨rfl, hs, hn, e0⟩ | ⟨rfl, hs, hn, e0⟩ | ⟨rfl, hs, hn, e0⟩
  all_goals
    rw [hs] at HS
    rw [hn] at HN
    clear hs hn h
    go_enter Tryz.func72, Tryz.ntmps72
    go_wp2_with (first
      | (go_at_call 46; refine (HS _ (by assumption)).mono ?_; rintro e w' ⟨rfl, hb⟩)
      | (go_at_call 58; refine (HN _ (by assumption)).mono ?_; rintro e w' ⟨rfl, hb⟩))
    go_ret
    exact ⟨ret_int (by decide), by first | assumption | exact BW.new (by assumption) _⟩
set_option maxHeartbeats 8000000 in
theorem sh_g (op : Int) (h : 58 ≤ op ∧ op ≤ 66) : ShAt op := by
  intro w
  have HS := fun w1 h => sort_bw w w1 h op (by omega) (by omega)
  have HN := fun w1 h => name_bw w w1 h op (by omega) (by omega)
  have HB : BW w w := Below.refl _ _
  rcases nfs_g h with ⟨rfl, hs, hn, e0⟩ | ⟨rfl, hs, hn, e0⟩ | ⟨rfl, hs, hn, e0⟩ | ⟨rfl, hs, hn, e0⟩ | ⟨rfl, hs, hn, e0⟩ | ⟨rfl, hs, hn, e0⟩ | ⟨rfl, hs, hn, e0⟩ | ⟨rfl, hs, hn, e0⟩ | ⟨rfl, hs, hn, e0⟩
  all_goals
    rw [hs] at HS
    rw [hn] at HN
    clear hs hn h
    go_enter Tryz.func72, Tryz.ntmps72
    go_wp2_with (first
      | (go_at_call 46; refine (HS _ (by assumption)).mono ?_; rintro e w' ⟨rfl, hb⟩)
      | (go_at_call 58; refine (HN _ (by assumption)).mono ?_; rintro e w' ⟨rfl, hb⟩))
    go_ret
    exact ⟨ret_int (by decide), by first | assumption | exact BW.new (by assumption) _⟩
set_option maxHeartbeats 8000000 in
theorem sh_h (op : Int) (h : 67 ≤ op ∧ op ≤ 75) : ShAt op := by
  intro w
  have HS := fun w1 h => sort_bw w w1 h op (by omega) (by omega)
  have HN := fun w1 h => name_bw w w1 h op (by omega) (by omega)
  have HB : BW w w := Below.refl _ _
  rcases nfs_h h with ⟨rfl, hs, hn, e0⟩ | ⟨rfl, hs, hn, e0⟩ | ⟨rfl, hs, hn, e0⟩ | ⟨rfl, hs, hn, e0⟩ | ⟨rfl, hs, hn, e0⟩ | ⟨rfl, hs, hn, e0⟩ | ⟨rfl, hs, hn, e0⟩ | ⟨rfl, hs, hn, e0⟩ | ⟨rfl, hs, hn, e0⟩
  all_goals
    rw [hs] at HS
    rw [hn] at HN
    clear hs hn h
    go_enter Tryz.func72, Tryz.ntmps72
    go_wp2_with (first
      | (go_at_call 46; refine (HS _ (by assumption)).mono ?_; rintro e w' ⟨rfl, hb⟩)
      | (go_at_call 58; refine (HN _ (by assumption)).mono ?_; rintro e w' ⟨rfl, hb⟩))
    go_ret
    exact ⟨ret_int (by decide), by first | assumption | exact BW.new (by assumption) _⟩
theorem sh_any (op : Int) (h : 1 ≤ op ∧ op ≤ 75) : ShAt op := by
  by_cases ha : op ≤ 10
  · exact sh_a op ⟨by omega, ha⟩
  by_cases hb : op ≤ 21
  · exact sh_b op ⟨by omega, hb⟩
  by_cases hc : op ≤ 30
  · exact sh_c op ⟨by omega, hc⟩
  by_cases hd : op ≤ 40
  · exact sh_d op ⟨by omega, hd⟩
  by_cases he : op ≤ 49
  · exact sh_e op ⟨by omega, he⟩
  by_cases hf : op ≤ 57
  · exact sh_f op ⟨by omega, hf⟩
  by_cases hg : op ≤ 66
  · exact sh_g op ⟨by omega, hg⟩
  exact sh_h op ⟨by omega, h.2⟩
end Go.Proofs.YtolmecnjolfjgaaGreatDoor
namespace Go.Proofs.YtolmecnjolfjgaaGreatDoor
open Go.RowKit

def FmAt (op : Int) : Prop := ∀ w : World, Calls Tryz.prog 70 #[.int .i64 op] w fun e w' => e = .returned (.int .i64 (fmV op)) ∧ BW w w'
def FvAt (op : Int) : Prop := ∀ w : World, Calls Tryz.prog 77 #[.int .i64 op] w fun e w' => e = .returned (.int .u32 (agV op)) ∧ BW w w'
theorem fm_kinds : ∀ k : Fin 75, (shV ((k.val : Int) + 1) ≠ 0 ∧ 0 < shV ((k.val : Int) + 1) ∧ fmV ((k.val : Int) + 1) = 0) ∨ (shV ((k.val : Int) + 1) = 0 ∧ ((srt ((k.val : Int) + 1) = 1 ∧ fmV ((k.val : Int) + 1) = 4) ∨ ((k.val : Int) + 1 = 3 ∧ srt ((k.val : Int) + 1) = 2 ∧ fmV ((k.val : Int) + 1) = 5) ∨ (srt ((k.val : Int) + 1) = 2 ∧ (k.val : Int) + 1 ≠ 3 ∧ fmV ((k.val : Int) + 1) = 1) ∨ (srt ((k.val : Int) + 1) = 3 ∧ fmV ((k.val : Int) + 1) = 3) ∨ (srt ((k.val : Int) + 1) = 4 ∧ fmV ((k.val : Int) + 1) = 1) ∨ (srt ((k.val : Int) + 1) = 6 ∧ fmV ((k.val : Int) + 1) = 1) ∨ (srt ((k.val : Int) + 1) = 5 ∧ fmV ((k.val : Int) + 1) = 2) ∨ (7 ≤ srt ((k.val : Int) + 1) ∧ fmV ((k.val : Int) + 1) = 0))) := by decide
theorem fm_any (op : Int) (h : 1 ≤ op ∧ op ≤ 75) : FmAt op := by
  intro w
  have HS := fun w1 h => sort_bw w w1 h op (by omega) (by omega)
  have HH : ∀ w1, BW w w1 → Calls Tryz.prog 72 #[.int .i64 op] w1 fun e w' => e = .returned (.int .i64 (shV op)) ∧ BW w w' := fun w1 hb => (sh_any op h w1).mono fun _ _ ⟨he, hc⟩ => ⟨he, hb.on hc⟩
  have HB : BW w w := Below.refl _ _
  have hk := fm_kinds ⟨op.toNat - 1, by omega⟩
  simp only [show ((op.toNat - 1 : Nat) : Int) + 1 = op by omega] at hk
  clear h
  rcases hk with ⟨_, hs, hf⟩ | ⟨hz, hk⟩
  · rw [hf]
    generalize shV op = s at *
    generalize srt op = k at *
    clear hf
    go_enter Tryz.func70, Tryz.ntmps70
    go_wp2_with (first
      | (go_at_call 46; refine (HS _ (by assumption)).mono ?_; rintro e w' ⟨rfl, hb⟩)
      | (go_at_call 72; refine (HH _ (by assumption)).mono ?_; rintro e w' ⟨rfl, hb⟩))
    go_ret
    exact ⟨rfl, by assumption⟩
  · rw [hz] at HH
    clear hz
    rcases hk with ⟨hk, hf⟩ | ⟨rfl, hk, hf⟩ | ⟨hk, hn, hf⟩ | ⟨hk, hf⟩ | ⟨hk, hf⟩ | ⟨hk, hf⟩ | ⟨hk, hf⟩ | ⟨hk, hf⟩
    all_goals
      try (have b3 : (op == 3) = false := by simpa using hn)
      rw [hf]
      first | rw [hk] at HS | generalize srt op = k at *
      clear hf
      go_enter Tryz.func70, Tryz.ntmps70
      go_wp2_with (first
        | (go_at_call 46; refine (HS _ (by assumption)).mono ?_; rintro e w' ⟨rfl, hb⟩)
        | (go_at_call 72; refine (HH _ (by assumption)).mono ?_; rintro e w' ⟨rfl, hb⟩))
      go_ret
      exact ⟨rfl, by assumption⟩
set_option maxHeartbeats 2000000 in
theorem fv_any (op : Int) (h : 54 ≤ op ∧ op ≤ 75) : FvAt op := by
  have hc : op = 54 ∨ op = 55 ∨ op = 56 ∨ op = 57 ∨ op = 58 ∨ op = 59 ∨ op = 60 ∨ op = 61 ∨ op = 62 ∨ op = 63 ∨ op = 64 ∨ op = 65 ∨ op = 66 ∨ op = 67 ∨ op = 68 ∨ op = 69 ∨ op = 70 ∨ op = 71 ∨ op = 72 ∨ op = 73 ∨ op = 74 ∨ op = 75 := by omega
  rcases hc with rfl | rfl | rfl | rfl | rfl | rfl | rfl | rfl | rfl | rfl | rfl | rfl | rfl | rfl | rfl | rfl | rfl | rfl | rfl | rfl | rfl | rfl
  all_goals
    intro w
    go_enter Tryz.func77, Tryz.ntmps77
    go_wp2
    go_ret
    exact ⟨ret_int (by decide), by first | exact Below.refl _ _ | exact BW.new (Below.refl _ _) _⟩
end Go.Proofs.YtolmecnjolfjgaaGreatDoor
