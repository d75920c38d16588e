/- The document's Turned and Shift. -/
import Derived.Test.YtolmecnjolfjgaaGreatDoorRows
import Derived.Test.YtolmecnjolfjgaaGreatDoorSy
import Derived.WalkKit
import Derived.WalkLawsBesides
import Derived.Deep.QuietTactic
import Derived.BigQuiet
import Derived.WalkSmall
import Derived.WalkSpells
import Derived.Lib.Hide
import Derived.Below
set_option maxRecDepth 100000
namespace Go.Proofs.YtolmecnjolfjgaaGreatDoor
open Go.RowKit

def TuAt (op : Int) : Prop := ∀ w : World, Calls Tryz.prog 75 #[.int .i64 op] w fun e w' => e = .returned (.bool (turB op)) ∧ BW w w'
def ShAt (op : Int) : Prop := ∀ w : World, Calls Tryz.prog 72 #[.int .i64 op] w fun e w' => e = .returned (.int .i64 (shV op)) ∧ BW w w'
set_option maxHeartbeats 8000000 in
theorem tu_a (op : Int) (h : 1 ≤ op ∧ op ≤ 10) : TuAt op := by
  intro w
  have HS := fun w1 h => sort_bw w w1 h op (by omega) (by omega)
  have HN := fun w1 h => name_bw w w1 h op (by omega) (by omega)
  have HB : BW w w := Below.refl _ _
  rcases nfs_a h with ⟨rfl, hs, hn, e0⟩ | ⟨rfl, hs, hn, e0⟩ | ⟨rfl, hs, hn, e0⟩ | ⟨rfl, hs, hn, e0⟩ | ⟨rfl, hs, hn, e0⟩ | ⟨rfl, hs, hn, e0⟩ | ⟨rfl, hs, hn, e0⟩ | ⟨rfl, hs, hn, e0⟩ | ⟨rfl, hs, hn, e0⟩ | ⟨rfl, hs, hn, e0⟩
  all_goals
    rw [hs] at HS
    rw [hn] at HN
    clear hs hn h
    go_enter Tryz.func75, Tryz.ntmps75
    go_wp2_with (first
      | (go_at_call 46; refine (HS _ (by assumption)).mono ?_; rintro e w' ⟨rfl, hb⟩)
      | (go_at_call 58; refine (HN _ (by assumption)).mono ?_; rintro e w' ⟨rfl, hb⟩))
    go_ret
    exact ⟨ret_bool (by decide), by first | assumption | exact BW.new (by assumption) _⟩
set_option maxHeartbeats 8000000 in
theorem tu_b (op : Int) (h : 11 ≤ op ∧ op ≤ 21) : TuAt op := by
  intro w
  have HS := fun w1 h => sort_bw w w1 h op (by omega) (by omega)
  have HN := fun w1 h => name_bw w w1 h op (by omega) (by omega)
  have HB : BW w w := Below.refl _ _
  rcases nfs_b h with ⟨rfl, hs, hn, e0⟩ | ⟨rfl, hs, hn, e0⟩ | ⟨rfl, hs, hn, e0⟩ | ⟨rfl, hs, hn, e0⟩ | ⟨rfl, hs, hn, e0⟩ | ⟨rfl, hs, hn, e0⟩ | ⟨rfl, hs, hn, e0⟩ | ⟨rfl, hs, hn, e0⟩ | ⟨rfl, hs, hn, e0⟩ | ⟨rfl, hs, hn, e0⟩ | ⟨rfl, hs, hn, e0⟩
  all_goals
    rw [hs] at HS
    rw [hn] at HN
    clear hs hn h
    go_enter Tryz.func75, Tryz.ntmps75
    go_wp2_with (first
      | (go_at_call 46; refine (HS _ (by assumption)).mono ?_; rintro e w' ⟨rfl, hb⟩)
      | (go_at_call 58; refine (HN _ (by assumption)).mono ?_; rintro e w' ⟨rfl, hb⟩))
    go_ret
    exact ⟨ret_bool (by decide), by first | assumption | exact BW.new (by assumption) _⟩
set_option maxHeartbeats 8000000 in
theorem tu_c (op : Int) (h : 22 ≤ op ∧ op ≤ 30) : TuAt op := by
  intro w
  have HS := fun w1 h => sort_bw w w1 h op (by omega) (by omega)
  have HN := fun w1 h => name_bw w w1 h op (by omega) (by omega)
  have HB : BW w w := Below.refl _ _
  rcases nfs_c h with ⟨rfl, hs, hn, e0⟩ | ⟨rfl, hs, hn, e0⟩ | ⟨rfl, hs, hn, e0⟩ | ⟨rfl, hs, hn, e0⟩ | ⟨rfl, hs, hn, e0⟩ | ⟨rfl, hs, hn, e0⟩ | ⟨rfl, hs, hn, e0⟩ | ⟨rfl, hs, hn, e0⟩ | ⟨rfl, hs, hn, e0⟩
  all_goals
    rw [hs] at HS
    rw [hn] at HN
    clear hs hn h
    go_enter Tryz.func75, Tryz.ntmps75
    go_wp2_with (first
      | (go_at_call 46; refine (HS _ (by assumption)).mono ?_; rintro e w' ⟨rfl, hb⟩)
      | (go_at_call 58; refine (HN _ (by assumption)).mono ?_; rintro e w' ⟨rfl, hb⟩))
    go_ret
    exact ⟨ret_bool (by decide), by first | assumption | exact BW.new (by assumption) _⟩
set_option maxHeartbeats 8000000 in
theorem tu_d (op : Int) (h : 31 ≤ op ∧ op ≤ 40) : TuAt op := by
  intro w
  have HS := fun w1 h => sort_bw w w1 h op (by omega) (by omega)
  have HN := fun w1 h => name_bw w w1 h op (by omega) (by omega)
  have HB : BW w w := Below.refl _ _
  rcases nfs_d h with ⟨rfl, hs, hn, e0⟩ | ⟨rfl, hs, hn, e0⟩ | ⟨rfl, hs, hn, e0⟩ | ⟨rfl, hs, hn, e0⟩ | ⟨rfl, hs, hn, e0⟩ | ⟨rfl, hs, hn, e0⟩ | ⟨rfl, hs, hn, e0⟩ | ⟨rfl, hs, hn, e0⟩ | ⟨rfl, hs, hn, e0⟩ | ⟨rfl, hs, hn, e0⟩
  all_goals
    rw [hs] at HS
    rw [hn] at HN
    clear hs hn h
    go_enter Tryz.func75, Tryz.ntmps75
    go_wp2_with (first
      | (go_at_call 46; refine (HS _ (by assumption)).mono ?_; rintro e w' ⟨rfl, hb⟩)
      | (go_at_call 58; refine (HN _ (by assumption)).mono ?_; rintro e w' ⟨rfl, hb⟩))
    go_ret
    exact ⟨ret_bool (by decide), by first | assumption | exact BW.new (by assumption) _⟩
set_option maxHeartbeats 8000000 in
theorem tu_e (op : Int) (h : 41 ≤ op ∧ op ≤ 49) : TuAt op := by
  intro w
  have HS := fun w1 h => sort_bw w w1 h op (by omega) (by omega)
  have HN := fun w1 h => name_bw w w1 h op (by omega) (by omega)
  have HB : BW w w := Below.refl _ _
  rcases nfs_e h with ⟨rfl, hs, hn, e0⟩ | ⟨rfl, hs, hn, e0⟩ | ⟨rfl, hs, hn, e0⟩ | ⟨rfl, hs, hn, e0⟩ | ⟨rfl, hs, hn, e0⟩ | ⟨rfl, hs, hn, e0⟩ | ⟨rfl, hs, hn, e0⟩ | ⟨rfl, hs, hn, e0⟩ | ⟨rfl, hs, hn, e0⟩
  all_goals
    rw [hs] at HS
    rw [hn] at HN
    clear hs hn h
    go_enter Tryz.func75, Tryz.ntmps75
    go_wp2_with (first
      | (go_at_call 46; refine (HS _ (by assumption)).mono ?_; rintro e w' ⟨rfl, hb⟩)
      | (go_at_call 58; refine (HN _ (by assumption)).mono ?_; rintro e w' ⟨rfl, hb⟩))
    go_ret
    exact ⟨ret_bool (by decide), by first | assumption | exact BW.new (by assumption) _⟩
set_option maxHeartbeats 8000000 in
theorem tu_f (op : Int) (h : 50 ≤ op ∧ op ≤ 57) : TuAt op := by
  intro w
  have HS := fun w1 h => sort_bw w w1 h op (by omega) (by omega)
  have HN := fun w1 h => name_bw w w1 h op (by omega) (by omega)
  have HB : BW w w := Below.refl _ _
  rcases nfs_f h with ⟨rfl, hs, hn, e0⟩ | ⟨rfl, hs, hn, e0⟩ | ⟨rfl, hs, hn, e0⟩ | ⟨rfl, hs, hn, e0⟩ | ⟨rfl, hs, hn, e0⟩ | ⟨rfl, hs, hn, e0⟩ | ⟨rfl, hs, hn, e0⟩ | ⟨rfl, hs, hn, e0⟩
  all_goals
    rw [hs] at HS
    rw [hn] at HN
    clear hs hn h
    go_enter Tryz.func75, Tryz.ntmps75
    go_wp2_with (first
      | (go_at_call 46; refine (HS _ (by assumption)).mono ?_; rintro e w' ⟨rfl, hb⟩)
      | (go_at_call 58; refine (HN _ (by assumption)).mono ?_; rintro e w' ⟨rfl, hb⟩))
    go_ret
    exact ⟨ret_bool (by decide), by first | assumption | exact BW.new (by assumption) _⟩
set_option maxHeartbeats 8000000 in
theorem tu_g (op : Int) (h : 58 ≤ op ∧ op ≤ 66) : TuAt op := by
  intro w
  have HS := fun w1 h => sort_bw w w1 h op (by omega) (by omega)
  have HN := fun w1 h => name_bw w w1 h op (by omega) (by omega)
  have HB : BW w w := Below.refl _ _
  rcases nfs_g h with ⟨rfl, hs, hn, e0⟩ | ⟨rfl, hs, hn, e0⟩ | ⟨rfl, hs, hn, e0⟩ | ⟨rfl, hs, hn, e0⟩ | ⟨rfl, hs, hn, e0⟩ | ⟨rfl, hs, hn, e0⟩ | ⟨rfl, hs, hn, e0⟩ | ⟨rfl, hs, hn, e0⟩ | ⟨rfl, hs, hn, e0⟩
  all_goals
    rw [hs] at HS
    rw [hn] at HN
    clear hs hn h
    go_enter Tryz.func75, Tryz.ntmps75
    go_wp2_with (first
      | (go_at_call 46; refine (HS _ (by assumption)).mono ?_; rintro e w' ⟨rfl, hb⟩)
      | (go_at_call 58; refine (HN _ (by assumption)).mono ?_; rintro e w' ⟨rfl, hb⟩))
    go_ret
    exact ⟨ret_bool (by decide), by first | assumption | exact BW.new (by assumption) _⟩
set_option maxHeartbeats 8000000 in
theorem tu_h (op : Int) (h : 67 ≤ op ∧ op ≤ 75) : TuAt op := by
  intro w
  have HS := fun w1 h => sort_bw w w1 h op (by omega) (by omega)
  have HN := fun w1 h => name_bw w w1 h op (by omega) (by omega)
  have HB : BW w w := Below.refl _ _
  rcases nfs_h h with ⟨rfl, hs, hn, e0⟩ | ⟨rfl, hs, hn, e0⟩ | ⟨rfl, hs, hn, e0⟩ | ⟨rfl, hs, hn, e0⟩ | ⟨rfl, hs, hn, e0⟩ | ⟨rfl, hs, hn, e0⟩ | ⟨rfl, hs, hn, e0⟩ | ⟨rfl, hs, hn, e0⟩ | ⟨rfl, hs, hn, e0⟩
  all_goals
    rw [hs] at HS
    rw [hn] at HN
    clear hs hn h
    go_enter Tryz.func75, Tryz.ntmps75
    go_wp2_with (first
      | (go_at_call 46; refine (HS _ (by assumption)).mono ?_; rintro e w' ⟨rfl, hb⟩)
      | (go_at_call 58; refine (HN _ (by assumption)).mono ?_; rintro e w' ⟨rfl, hb⟩))
    go_ret
    exact ⟨ret_bool (by decide), by first | assumption | exact BW.new (by assumption) _⟩
theorem tu_any (op : Int) (h : 1 ≤ op ∧ op ≤ 75) : TuAt op := by
  by_cases ha : op ≤ 10
  · exact tu_a op ⟨by omega, ha⟩
  by_cases hb : op ≤ 21
  · exact tu_b op ⟨by omega, hb⟩
  by_cases hc : op ≤ 30
  · exact tu_c op ⟨by omega, hc⟩
  by_cases hd : op ≤ 40
  · exact tu_d op ⟨by omega, hd⟩
  by_cases he : op ≤ 49
  · exact tu_e op ⟨by omega, he⟩
  by_cases hf : op ≤ 57
  · exact tu_f op ⟨by omega, hf⟩
  by_cases hg : op ≤ 66
  · exact tu_g op ⟨by omega, hg⟩
  exact tu_h op ⟨by omega, h.2⟩
set_option maxHeartbeats 8000000 in
theorem sh_a (op : Int) (h : 1 ≤ op ∧ op ≤ 10) : ShAt op := by
  intro w
  have HS := fun w1 h => sort_bw w w1 h op (by omega) (by omega)
  have HN := fun w1 h => name_bw w w1 h op (by omega) (by omega)
  have HB : BW w w := Below.refl _ _
  rcases nfs_a h with ⟨rfl, hs, hn, e0⟩ | ⟨rfl, hs, hn, e0⟩ | ⟨rfl, hs, hn, e0⟩ | ⟨rfl, hs, hn, e0⟩ | ⟨rfl, hs, hn, e0⟩ | ⟨rfl, hs, hn, e0⟩ | ⟨rfl, hs, hn, e0⟩ | ⟨rfl, hs, hn, e0⟩ | ⟨rfl, hs, hn, e0⟩ | ⟨rfl, hs, hn, e0⟩
  all_goals
    rw [hs] at HS
    rw [hn] at HN
    clear hs hn h
    go_enter Tryz.func72, Tryz.ntmps72
    go_wp2_with (first
      | (go_at_call 46; refine (HS _ (by assumption)).mono ?_; rintro e w' ⟨rfl, hb⟩)
      | (go_at_call 58; refine (HN _ (by assumption)).mono ?_; rintro e w' ⟨rfl, hb⟩))
    go_ret
    exact ⟨ret_int (by decide), by first | assumption | exact BW.new (by assumption) _⟩
set_option maxHeartbeats 8000000 in
theorem sh_b (op : Int) (h : 11 ≤ op ∧ op ≤ 21) : ShAt op := by
  intro w
  have HS := fun w1 h => sort_bw w w1 h op (by omega) (by omega)
  have HN := fun w1 h => name_bw w w1 h op (by omega) (by omega)
  have HB : BW w w := Below.refl _ _
  rcases nfs_b h with ⟨rfl, hs, hn, e0⟩ | ⟨rfl, hs, hn, e0⟩ | ⟨rfl, hs, hn, e0⟩ | ⟨rfl, hs, hn, e0⟩ | ⟨rfl, hs, hn, e0⟩ | ⟨rfl, hs, hn, e0⟩ | ⟨rfl, hs, hn, e0⟩ | ⟨rfl, hs, hn, e0⟩ | ⟨rfl, hs, hn, e0⟩ | ⟨rfl, hs, hn, e0⟩ | ⟨rfl, hs, hn, e0⟩
  all_goals
    rw [hs] at HS
    rw [hn] at HN
    clear hs hn h
    go_enter Tryz.func72, Tryz.ntmps72
    go_wp2_with (first
      | (go_at_call 46; refine (HS _ (by assumption)).mono ?_; rintro e w' ⟨rfl, hb⟩)
      | (go_at_call 58; refine (HN _ (by assumption)).mono ?_; rintro e w' ⟨rfl, hb⟩))
    go_ret
    exact ⟨ret_int (by decide), by first | assumption | exact BW.new (by assumption) _⟩
set_option maxHeartbeats 8000000 in
theorem sh_c (op : Int) (h : 22 ≤ op ∧ op ≤ 30) : ShAt op := by
  intro w
  have HS := fun w1 h => sort_bw w w1 h op (by omega) (by omega)
  have HN := fun w1 h => name_bw w w1 h op (by omega) (by omega)
  have HB : BW w w := Below.refl _ _
  rcases nfs_c h with ⟨rfl, hs, hn, e0⟩ | ⟨rfl, hs, hn, e0⟩ | ⟨rfl, hs, hn, e0⟩ | ⟨rfl, hs, hn, e0⟩ | ⟨rfl, hs, hn, e0⟩ | ⟨rfl, hs, hn, e0⟩ | ⟨rfl, hs, hn, e0⟩ | ⟨rfl, hs, hn, e0⟩ | ⟨rfl, hs, hn, e0⟩
  all_goals
    rw [hs] at HS
    rw [hn] at HN
    clear hs hn h
    go_enter Tryz.func72, Tryz.ntmps72
    go_wp2_with (first
      | (go_at_call 46; refine (HS _ (by assumption)).mono ?_; rintro e w' ⟨rfl, hb⟩)
      | (go_at_call 58; refine (HN _ (by assumption)).mono ?_; rintro e w' ⟨rfl, hb⟩))
    go_ret
    exact ⟨ret_int (by decide), by first | assumption | exact BW.new (by assumption) _⟩
set_option maxHeartbeats 8000000 in
theorem sh_d (op : Int) (h : 31 ≤ op ∧ op ≤ 40) : ShAt op := by
  intro w
  have HS := fun w1 h => sort_bw w w1 h op (by omega) (by omega)
  have HN := fun w1 h => name_bw w w1 h op (by omega) (by omega)
  have HB : BW w w := Below.refl _ _
  rcases nfs_d h with ⟨rfl, hs, hn, e0⟩ | ⟨rfl, hs, hn, e0⟩ | ⟨rfl, hs, hn, e0⟩ | ⟨rfl, hs, hn, e0⟩ | ⟨rfl, hs, hn, e0⟩ | ⟨rfl, hs, hn, e0⟩ | ⟨rfl, hs, hn, e0⟩ | ⟨rfl, hs, hn, e0⟩ | ⟨rfl, hs, hn, e0⟩ | ⟨rfl, hs, hn, e0⟩
  all_goals
    rw [hs] at HS
    rw [hn] at HN
    clear hs hn h
    go_enter Tryz.func72, Tryz.ntmps72
    go_wp2_with (first
      | (go_at_call 46; refine (HS _ (by assumption)).mono ?_; rintro e w' ⟨rfl, hb⟩)
      | (go_at_call 58; refine (HN _ (by assumption)).mono ?_; rintro e w' ⟨rfl, hb⟩))
    go_ret
    exact ⟨ret_int (by decide), by first | assumption | exact BW.new (by assumption) _⟩
set_option maxHeartbeats 8000000 in
theorem sh_e (op : Int) (h : 41 ≤ op ∧ op ≤ 49) : ShAt op := by
  intro w
  have HS := fun w1 h => sort_bw w w1 h op (by omega) (by omega)
  have HN := fun w1 h => name_bw w w1 h op (by omega) (by omega)
  have HB : BW w w := Below.refl _ _
  rcases nfs_e h with ⟨rfl, hs, hn, e0⟩ | ⟨rfl, hs, hn, e0⟩ | ⟨rfl, hs, hn, e0⟩ | ⟨rfl, hs, hn, e0⟩ | ⟨rfl, hs, hn, e0⟩ | ⟨rfl, hs, hn, e0⟩ | ⟨rfl, hs, hn, e0⟩ | ⟨rfl, hs, hn, e0⟩ | ⟨rfl, hs, hn, e0⟩
  all_goals
    rw [hs] at HS
    rw [hn] at HN
    clear hs hn h
    go_enter Tryz.func72, Tryz.ntmps72
    go_wp2_with (first
      | (go_at_call 46; refine (HS _ (by assumption)).mono ?_; rintro e w' ⟨rfl, hb⟩)
      | (go_at_call 58; refine (HN _ (by assumption)).mono ?_; rintro e w' ⟨rfl, hb⟩))
    go_ret
    exact ⟨ret_int (by decide), by first | assumption | exact BW.new (by assumption) _⟩
set_option maxHeartbeats 8000000 in
theorem sh_f (op : Int) (h : 50 ≤ op ∧ op ≤ 57) : ShAt op := by
  intro w
  have HS := fun w1 h => sort_bw w w1 h op (by omega) (by omega)
  have HN := fun w1 h => name_bw w w1 h op (by omega) (by omega)
  have HB : BW w w := Below.refl _ _
  rcases nfs_f h with ⟨rfl, hs, hn, e0⟩ | ⟨rfl, hs, hn, e0⟩ | ⟨rfl, hs, hn, e0⟩ | ⟨rfl, hs, hn, e0⟩ | ⟨rfl, hs, hn, e0⟩ | ⟨rfl, hs, hn, e0⟩ | ⟨rfl, hs, hn, e0⟩ | ⟨rfl, hs, hn, e0⟩
  all_goals
    rw [hs] at HS
    rw [hn] at HN
    clear hs hn h
    go_enter Tryz.func72, Tryz.ntmps72
    go_wp2_with (first
      | (go_at_call 46; refine (HS _ (by assumption)).mono ?_; rintro e w' ⟨rfl, hb⟩)
      | (go_at_call 58; refine (HN _ (by assumption)).mono ?_; rintro e w' ⟨rfl, hb⟩))
    go_ret
    exact ⟨ret_int (by decide), by first | assumption | exact BW.new (by assumption) _⟩
set_option maxHeartbeats 8000000 in
theorem sh_g (op : Int) (h : 58 ≤ op ∧ op ≤ 66) : ShAt op := by
  intro w
  have HS := fun w1 h => sort_bw w w1 h op (by omega) (by omega)
  have HN := fun w1 h => name_bw w w1 h op (by omega) (by omega)
  have HB : BW w w := Below.refl _ _
  rcases nfs_g h with ⟨rfl, hs, hn, e0⟩ | ⟨rfl, hs, hn, e0⟩ | ⟨rfl, hs, hn, e0⟩ | ⟨rfl, hs, hn, e0⟩ | ⟨rfl, hs, hn, e0⟩ | ⟨rfl, hs, hn, e0⟩ | ⟨rfl, hs, hn, e0⟩ | ⟨rfl, hs, hn, e0⟩ | ⟨rfl, hs, hn, e0⟩
  all_goals
    rw [hs] at HS
    rw [hn] at HN
    clear hs hn h
    go_enter Tryz.func72, Tryz.ntmps72
    go_wp2_with (first
      | (go_at_call 46; refine (HS _ (by assumption)).mono ?_; rintro e w' ⟨rfl, hb⟩)
      | (go_at_call 58; refine (HN _ (by assumption)).mono ?_; rintro e w' ⟨rfl, hb⟩))
    go_ret
    exact ⟨ret_int (by decide), by first | assumption | exact BW.new (by assumption) _⟩
set_option maxHeartbeats 8000000 in
theorem sh_h (op : Int) (h : 67 ≤ op ∧ op ≤ 75) : ShAt op := by
  intro w
  have HS := fun w1 h => sort_bw w w1 h op (by omega) (by omega)
  have HN := fun w1 h => name_bw w w1 h op (by omega) (by omega)
  have HB : BW w w := Below.refl _ _
  rcases nfs_h h with ⟨rfl, hs, hn, e0⟩ | ⟨rfl, hs, hn, e0⟩ | ⟨rfl, hs, hn, e0⟩ | ⟨rfl, hs, hn, e0⟩ | ⟨rfl, hs, hn, e0⟩ | ⟨rfl, hs, hn, e0⟩ | ⟨rfl, hs, hn, e0⟩ | ⟨rfl, hs, hn, e0⟩ | ⟨rfl, hs, hn, e0⟩
  all_goals
    rw [hs] at HS
    rw [hn] at HN
    clear hs hn h
    go_enter Tryz.func72, Tryz.ntmps72
    go_wp2_with (first
      | (go_at_call 46; refine (HS _ (by assumption)).mono ?_; rintro e w' ⟨rfl, hb⟩)
      | (go_at_call 58; refine (HN _ (by assumption)).mono ?_; rintro e w' ⟨rfl, hb⟩))
    go_ret
    exact ⟨ret_int (by decide), by first | assumption | exact BW.new (by assumption) _⟩
theorem sh_any (op : Int) (h : 1 ≤ op ∧ op ≤ 75) : ShAt op := by
  by_cases ha : op ≤ 10
  · exact sh_a op ⟨by omega, ha⟩
  by_cases hb : op ≤ 21
  · exact sh_b op ⟨by omega, hb⟩
  by_cases hc : op ≤ 30
  · exact sh_c op ⟨by omega, hc⟩
  by_cases hd : op ≤ 40
  · exact sh_d op ⟨by omega, hd⟩
  by_cases he : op ≤ 49
  · exact sh_e op ⟨by omega, he⟩
  by_cases hf : op ≤ 57
  · exact sh_f op ⟨by omega, hf⟩
  by_cases hg : op ≤ 66
  · exact sh_g op ⟨by omega, hg⟩
  exact sh_h op ⟨by omega, h.2⟩
end Go.Proofs.YtolmecnjolfjgaaGreatDoor
