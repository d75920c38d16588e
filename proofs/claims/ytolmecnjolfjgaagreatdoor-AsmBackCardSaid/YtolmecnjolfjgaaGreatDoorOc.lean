/- The document's Opcode. -/
import Derived.Test.YtolmecnjolfjgaaGreatDoorRows
import Derived.Test.YtolmecnjolfjgaaGreatDoorSy
import Derived.WalkKit
import Derived.WalkLawsBesides
import Derived.Deep.QuietTactic
import Derived.BigQuiet
import Derived.WalkSmall
import Derived.WalkSpells
import Derived.Lib.Hide
import Derived.Below
set_option maxRecDepth 100000
namespace Go.Proofs.YtolmecnjolfjgaaGreatDoor
open Go.RowKit

def OcAt (op : Int) : Prop := ∀ w : World, Calls Tryz.prog 73 #[.int .i64 op] w fun e w' => e = .returned (.int .u32 (ocV op)) ∧ BW w w'
theorem oc_other {op : Int} (h0 : -9223372036854775808 ≤ op) (h1 : op ≤ 9223372036854775807) (h : ¬ (1 ≤ op ∧ op ≤ 75)) : OcAt op := by
  intro w
  have HS := fun w1 h => sort_bw w w1 h op h0 h1
  have HN := fun w1 h => name_bw w w1 h op h0 h1
  have HB : BW w w := Below.refl _ _
  have HV : Hid (ocV op = 0) := by show _ = _; unfold ocV tabI; rw [if_neg h]
  rw [show srt op = 0 by have := srt_spec op; omega] at HS
  unfold tx at HN
  generalize bs (nmO op) = q at *
  clear h
  go_enter Tryz.func73, Tryz.ntmps73
  go_wp2_with (first
    | (go_at_call 46; refine (HS _ (by assumption)).mono ?_; rintro e w' ⟨rfl, hb⟩)
    | (go_at_call 58; refine (HN _ (by assumption)).mono ?_; rintro e w' ⟨rfl, hb⟩))
  go_ret
  exact ⟨ret_int HV.out.symm, by assumption⟩
set_option maxHeartbeats 8000000 in
theorem oc_a (op : Int) (h : 1 ≤ op ∧ op ≤ 10) : OcAt op := by
  intro w
  have HS := fun w1 h => sort_bw w w1 h op (by omega) (by omega)
  have HN := fun w1 h => name_bw w w1 h op (by omega) (by omega)
  have HB : BW w w := Below.refl _ _
  rcases nfs_a h with ⟨rfl, hs, hn, e0⟩ | ⟨rfl, hs, hn, e0⟩ | ⟨rfl, hs, hn, e0⟩ | ⟨rfl, hs, hn, e0⟩ | ⟨rfl, hs, hn, e0⟩ | ⟨rfl, hs, hn, e0⟩ | ⟨rfl, hs, hn, e0⟩ | ⟨rfl, hs, hn, e0⟩ | ⟨rfl, hs, hn, e0⟩ | ⟨rfl, hs, hn, e0⟩
  all_goals
    rw [hs] at HS
    rw [hn] at HN
    clear hs hn h
    go_enter Tryz.func73, Tryz.ntmps73
    go_wp2_with (first
      | (go_at_call 46; refine (HS _ (by assumption)).mono ?_; rintro e w' ⟨rfl, hb⟩)
      | (go_at_call 58; refine (HN _ (by assumption)).mono ?_; rintro e w' ⟨rfl, hb⟩))
    go_ret
    exact ⟨ret_int (by decide), by first | assumption | exact BW.new (by assumption) _⟩
set_option maxHeartbeats 8000000 in
theorem oc_b (op : Int) (h : 11 ≤ op ∧ op ≤ 21) : OcAt op := by
  intro w
  have HS := fun w1 h => sort_bw w w1 h op (by omega) (by omega)
  have HN := fun w1 h => name_bw w w1 h op (by omega) (by omega)
  have HB : BW w w := Below.refl _ _
  rcases nfs_b h with ⟨rfl, hs, hn, e0⟩ | ⟨rfl, hs, hn, e0⟩ | ⟨rfl, hs, hn, e0⟩ | ⟨rfl, hs, hn, e0⟩ | ⟨rfl, hs, hn, e0⟩ | ⟨rfl, hs, hn, e0⟩ | ⟨rfl, hs, hn, e0⟩ | ⟨rfl, hs, hn, e0⟩ | ⟨rfl, hs, hn, e0⟩ | ⟨rfl, hs, hn, e0⟩ | ⟨rfl, hs, hn, e0⟩
  all_goals
    rw [hs] at HS
    rw [hn] at HN
    clear hs hn h
    go_enter Tryz.func73, Tryz.ntmps73
    go_wp2_with (first
      | (go_at_call 46; refine (HS _ (by assumption)).mono ?_; rintro e w' ⟨rfl, hb⟩)
      | (go_at_call 58; refine (HN _ (by assumption)).mono ?_; rintro e w' ⟨rfl, hb⟩))
    go_ret
    exact ⟨ret_int (by decide), by first | assumption | exact BW.new (by assumption) _⟩
set_option maxHeartbeats 8000000 in
theorem oc_c (op : Int) (h : 22 ≤ op ∧ op ≤ 30) : OcAt op := by
  intro w
  have HS := fun w1 h => sort_bw w w1 h op (by omega) (by omega)
  have HN := fun w1 h => name_bw w w1 h op (by omega) (by omega)
  have HB : BW w w := Below.refl _ _
  rcases nfs_c h with ⟨rfl, hs, hn, e0⟩ | ⟨rfl, hs, hn, e0⟩ | ⟨rfl, hs, hn, e0⟩ | ⟨rfl, hs, hn, e0⟩ | ⟨rfl, hs, hn, e0⟩ | ⟨rfl, hs, hn, e0⟩ | ⟨rfl, hs, hn, e0⟩ | ⟨rfl, hs, hn, e0⟩ | ⟨rfl, hs, hn, e0⟩
  all_goals
    rw [hs] at HS
    rw [hn] at HN
    clear hs hn h
    go_enter Tryz.func73, Tryz.ntmps73
    go_wp2_with (first
      | (go_at_call 46; refine (HS _ (by assumption)).mono ?_; rintro e w' ⟨rfl, hb⟩)
      | (go_at_call 58; refine (HN _ (by assumption)).mono ?_; rintro e w' ⟨rfl, hb⟩))
    go_ret
    exact ⟨ret_int (by decide), by first | assumption | exact BW.new (by assumption) _⟩
set_option maxHeartbeats 8000000 in
theorem oc_d (op : Int) (h : 31 ≤ op ∧ op ≤ 40) : OcAt op := by
  intro w
  have HS := fun w1 h => sort_bw w w1 h op (by omega) (by omega)
  have HN := fun w1 h => name_bw w w1 h op (by omega) (by omega)
  have HB : BW w w := Below.refl _ _
  rcases nfs_d h with ⟨rfl, hs, hn, e0⟩ | ⟨rfl, hs, hn, e0⟩ | ⟨rfl, hs, hn, e0⟩ | ⟨rfl, hs, hn, e0⟩ | ⟨rfl, hs, hn, e0⟩ | ⟨rfl, hs, hn, e0⟩ | ⟨rfl, hs, hn, e0⟩ | ⟨rfl, hs, hn, e0⟩ | ⟨rfl, hs, hn, e0⟩ | ⟨rfl, hs, hn, e0⟩
  all_goals
    rw [hs] at HS
    rw [hn] at HN
    clear hs hn h
    go_enter Tryz.func73, Tryz.ntmps73
    go_wp2_with (first
      | (go_at_call 46; refine (HS _ (by assumption)).mono ?_; rintro e w' ⟨rfl, hb⟩)
      | (go_at_call 58; refine (HN _ (by assumption)).mono ?_; rintro e w' ⟨rfl, hb⟩))
    go_ret
    exact ⟨ret_int (by decide), by first | assumption | exact BW.new (by assumption) _⟩
set_option maxHeartbeats 8000000 in
theorem oc_e (op : Int) (h : 41 ≤ op ∧ op ≤ 49) : OcAt op := by
  intro w
  have HS := fun w1 h => sort_bw w w1 h op (by omega) (by omega)
  have HN := fun w1 h => name_bw w w1 h op (by omega) (by omega)
  have HB : BW w w := Below.refl _ _
  rcases nfs_e h with ⟨rfl, hs, hn, e0⟩ | ⟨rfl, hs, hn, e0⟩ | ⟨rfl, hs, hn, e0⟩ | ⟨rfl, hs, hn, e0⟩ | ⟨rfl, hs, hn, e0⟩ | ⟨rfl, hs, hn, e0⟩ | ⟨rfl, hs, hn, e0⟩ | ⟨rfl, hs, hn, e0⟩ | ⟨rfl, hs, hn, e0⟩
  all_goals
    rw [hs] at HS
    rw [hn] at HN
    clear hs hn h
    go_enter Tryz.func73, Tryz.ntmps73
    go_wp2_with (first
      | (go_at_call 46; refine (HS _ (by assumption)).mono ?_; rintro e w' ⟨rfl, hb⟩)
      | (go_at_call 58; refine (HN _ (by assumption)).mono ?_; rintro e w' ⟨rfl, hb⟩))
    go_ret
    exact ⟨ret_int (by decide), by first | assumption | exact BW.new (by assumption) _⟩
set_option maxHeartbeats 8000000 in
theorem oc_f (op : Int) (h : 50 ≤ op ∧ op ≤ 57) : OcAt op := by
  intro w
  have HS := fun w1 h => sort_bw w w1 h op (by omega) (by omega)
  have HN := fun w1 h => name_bw w w1 h op (by omega) (by omega)
  have HB : BW w w := Below.refl _ _
  rcases nfs_f h with ⟨rfl, hs, hn, e0⟩ | ⟨rfl, hs, hn, e0⟩ | ⟨rfl, hs, hn, e0⟩ | ⟨rfl, hs, hn, e0⟩ | ⟨rfl, hs, hn, e0⟩ | ⟨rfl, hs, hn, e0⟩ | ⟨rfl, hs, hn, e0⟩ | ⟨rfl, hs, hn, e0⟩
  all_goals
    rw [hs] at HS
    rw [hn] at HN
    clear hs hn h
    go_enter Tryz.func73, Tryz.ntmps73
    go_wp2_with (first
      | (go_at_call 46; refine (HS _ (by assumption)).mono ?_; rintro e w' ⟨rfl, hb⟩)
      | (go_at_call 58; refine (HN _ (by assumption)).mono ?_; rintro e w' ⟨rfl, hb⟩))
    go_ret
    exact ⟨ret_int (by decide), by first | assumption | exact BW.new (by assumption) _⟩
set_option maxHeartbeats 8000000 in
theorem oc_g (op : Int) (h : 58 ≤ op ∧ op ≤ 66) : OcAt op := by
  intro w
  have HS := fun w1 h => sort_bw w w1 h op (by omega) (by omega)
  have HN := fun w1 h => name_bw w w1 h op (by omega) (by omega)
  have HB : BW w w := Below.refl _ _
  rcases nfs_g h with ⟨rfl, hs, hn, e0⟩ | ⟨rfl, hs, hn, e0⟩ | ⟨rfl, hs, hn, e0⟩ | ⟨rfl, hs, hn, e0⟩ | ⟨rfl, hs, hn, e0⟩ | ⟨rfl, hs, hn, e0⟩ | ⟨rfl, hs, hn, e0⟩ | ⟨rfl, hs, hn, e0⟩ | ⟨rfl, hs, hn, e0⟩
  all_goals
    rw [hs] at HS
    rw [hn] at HN
    clear hs hn h
    go_enter Tryz.func73, Tryz.ntmps73
    go_wp2_with (first
      | (go_at_call 46; refine (HS _ (by assumption)).mono ?_; rintro e w' ⟨rfl, hb⟩)
      | (go_at_call 58; refine (HN _ (by assumption)).mono ?_; rintro e w' ⟨rfl, hb⟩))
    go_ret
    exact ⟨ret_int (by decide), by first | assumption | exact BW.new (by assumption) _⟩
set_option maxHeartbeats 8000000 in
theorem oc_h (op : Int) (h : 67 ≤ op ∧ op ≤ 75) : OcAt op := by
  intro w
  have HS := fun w1 h => sort_bw w w1 h op (by omega) (by omega)
  have HN := fun w1 h => name_bw w w1 h op (by omega) (by omega)
  have HB : BW w w := Below.refl _ _
  rcases nfs_h h with ⟨rfl, hs, hn, e0⟩ | ⟨rfl, hs, hn, e0⟩ | ⟨rfl, hs, hn, e0⟩ | ⟨rfl, hs, hn, e0⟩ | ⟨rfl, hs, hn, e0⟩ | ⟨rfl, hs, hn, e0⟩ | ⟨rfl, hs, hn, e0⟩ | ⟨rfl, hs, hn, e0⟩ | ⟨rfl, hs, hn, e0⟩
  all_goals
    rw [hs] at HS
    rw [hn] at HN
    clear hs hn h
    go_enter Tryz.func73, Tryz.ntmps73
    go_wp2_with (first
      | (go_at_call 46; refine (HS _ (by assumption)).mono ?_; rintro e w' ⟨rfl, hb⟩)
      | (go_at_call 58; refine (HN _ (by assumption)).mono ?_; rintro e w' ⟨rfl, hb⟩))
    go_ret
    exact ⟨ret_int (by decide), by first | assumption | exact BW.new (by assumption) _⟩
theorem oc_any (op : Int) (h : 1 ≤ op ∧ op ≤ 75) : OcAt op := by
  by_cases ha : op ≤ 10
  · exact oc_a op ⟨by omega, ha⟩
  by_cases hb : op ≤ 21
  · exact oc_b op ⟨by omega, hb⟩
  by_cases hc : op ≤ 30
  · exact oc_c op ⟨by omega, hc⟩
  by_cases hd : op ≤ 40
  · exact oc_d op ⟨by omega, hd⟩
  by_cases he : op ≤ 49
  · exact oc_e op ⟨by omega, he⟩
  by_cases hf : op ≤ 57
  · exact oc_f op ⟨by omega, hf⟩
  by_cases hg : op ≤ 66
  · exact oc_g op ⟨by omega, hg⟩
  exact oc_h op ⟨by omega, h.2⟩
end Go.Proofs.YtolmecnjolfjgaaGreatDoor
