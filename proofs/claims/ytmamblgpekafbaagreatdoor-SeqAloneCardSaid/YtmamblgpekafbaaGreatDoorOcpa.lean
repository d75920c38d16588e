/- Of stage 11. -/
import Derived.LoopTactic
import Derived.Test.YtmamblgpekafbaaGreatDoorDqpa
import Derived.Outline
import Derived.Deep.LoopGhost
set_option maxRecDepth 100000
set_option maxHeartbeats 8000000
namespace Go.Proofs.YtmamblgpekafbaaGreatDoor
open Go.RowKit
def OcAt (op : Int) : Prop := ∀ w : World, Calls Tryz.prog 109 #[.int .i64 op] w fun e w' => e = .returned (.int .u32 (ocV op)) ∧ BW w w'
theorem oc_a (op : Int) (h : 1 ≤ op ∧ op ≤ 10) : OcAt op := by
  intro w
  have HS := fun w1 h => za7 w w1 h op (by omega) (by omega)
  have HN := fun w1 h => za9 w w1 h op (by omega) (by omega)
  have HB : BW w w := Below.refl _ _
  rcases Za9 h with ⟨rfl, hs, hn, e0⟩ | ⟨rfl, hs, hn, e0⟩ | ⟨rfl, hs, hn, e0⟩ | ⟨rfl, hs, hn, e0⟩ | ⟨rfl, hs, hn, e0⟩ | ⟨rfl, hs, hn, e0⟩ | ⟨rfl, hs, hn, e0⟩ | ⟨rfl, hs, hn, e0⟩ | ⟨rfl, hs, hn, e0⟩ | ⟨rfl, hs, hn, e0⟩
  all_goals
    rw [hs] at HS
    rw [hn] at HN
    clear hs hn h
    go_enter Tryz.func109, Tryz.ntmps109
    go_wp2_with (first
      | (go_at_call 23; refine (HS _ (by assumption)).mono ?_; rintro e w' ⟨rfl, hb⟩)
      | (go_at_call 41; refine (HN _ (by assumption)).mono ?_; rintro e w' ⟨rfl, hb⟩))
    go_ret
    exact ⟨za1 (by decide), by first | assumption | exact BW.new (by assumption) _⟩
theorem oc_b (op : Int) (h : 11 ≤ op ∧ op ≤ 21) : OcAt op := by
  intro w
  have HS := fun w1 h => za7 w w1 h op (by omega) (by omega)
  have HN := fun w1 h => za9 w w1 h op (by omega) (by omega)
  have HB : BW w w := Below.refl _ _
  rcases zZ4 h with ⟨rfl, hs, hn, e0⟩ | ⟨rfl, hs, hn, e0⟩ | ⟨rfl, hs, hn, e0⟩ | ⟨rfl, hs, hn, e0⟩ | ⟨rfl, hs, hn, e0⟩ | ⟨rfl, hs, hn, e0⟩ | ⟨rfl, hs, hn, e0⟩ | ⟨rfl, hs, hn, e0⟩ | ⟨rfl, hs, hn, e0⟩ | ⟨rfl, hs, hn, e0⟩ | ⟨rfl, hs, hn, e0⟩
  all_goals
    rw [hs] at HS
    rw [hn] at HN
    clear hs hn h
    go_enter Tryz.func109, Tryz.ntmps109
    go_wp2_with (first
      | (go_at_call 23; refine (HS _ (by assumption)).mono ?_; rintro e w' ⟨rfl, hb⟩)
      | (go_at_call 41; refine (HN _ (by assumption)).mono ?_; rintro e w' ⟨rfl, hb⟩))
    go_ret
    exact ⟨za1 (by decide), by first | assumption | exact BW.new (by assumption) _⟩
theorem oc_c (op : Int) (h : 22 ≤ op ∧ op ≤ 30) : OcAt op := by
  intro w
  have HS := fun w1 h => za7 w w1 h op (by omega) (by omega)
  have HN := fun w1 h => za9 w w1 h op (by omega) (by omega)
  have HB : BW w w := Below.refl _ _
  rcases Zc9 h with ⟨rfl, hs, hn, e0⟩ | ⟨rfl, hs, hn, e0⟩ | ⟨rfl, hs, hn, e0⟩ | ⟨rfl, hs, hn, e0⟩ | ⟨rfl, hs, hn, e0⟩ | ⟨rfl, hs, hn, e0⟩ | ⟨rfl, hs, hn, e0⟩ | ⟨rfl, hs, hn, e0⟩ | ⟨rfl, hs, hn, e0⟩
  all_goals
    rw [hs] at HS
    rw [hn] at HN
    clear hs hn h
    go_enter Tryz.func109, Tryz.ntmps109
    go_wp2_with (first
      | (go_at_call 23; refine (HS _ (by assumption)).mono ?_; rintro e w' ⟨rfl, hb⟩)
      | (go_at_call 41; refine (HN _ (by assumption)).mono ?_; rintro e w' ⟨rfl, hb⟩))
    go_ret
    exact ⟨za1 (by decide), by first | assumption | exact BW.new (by assumption) _⟩
theorem oc_d (op : Int) (h : 31 ≤ op ∧ op ≤ 40) : OcAt op := by
  intro w
  have HS := fun w1 h => za7 w w1 h op (by omega) (by omega)
  have HN := fun w1 h => za9 w w1 h op (by omega) (by omega)
  have HB : BW w w := Below.refl _ _
  rcases Zg3 h with ⟨rfl, hs, hn, e0⟩ | ⟨rfl, hs, hn, e0⟩ | ⟨rfl, hs, hn, e0⟩ | ⟨rfl, hs, hn, e0⟩ | ⟨rfl, hs, hn, e0⟩ | ⟨rfl, hs, hn, e0⟩ | ⟨rfl, hs, hn, e0⟩ | ⟨rfl, hs, hn, e0⟩ | ⟨rfl, hs, hn, e0⟩ | ⟨rfl, hs, hn, e0⟩
  all_goals
    rw [hs] at HS
    rw [hn] at HN
    clear hs hn h
    go_enter Tryz.func109, Tryz.ntmps109
    go_wp2_with (first
      | (go_at_call 23; refine (HS _ (by assumption)).mono ?_; rintro e w' ⟨rfl, hb⟩)
      | (go_at_call 41; refine (HN _ (by assumption)).mono ?_; rintro e w' ⟨rfl, hb⟩))
    go_ret
    exact ⟨za1 (by decide), by first | assumption | exact BW.new (by assumption) _⟩
theorem oc_e (op : Int) (h : 41 ≤ op ∧ op ≤ 49) : OcAt op := by
  intro w
  have HS := fun w1 h => za7 w w1 h op (by omega) (by omega)
  have HN := fun w1 h => za9 w w1 h op (by omega) (by omega)
  have HB : BW w w := Below.refl _ _
  rcases Zm7 h with ⟨rfl, hs, hn, e0⟩ | ⟨rfl, hs, hn, e0⟩ | ⟨rfl, hs, hn, e0⟩ | ⟨rfl, hs, hn, e0⟩ | ⟨rfl, hs, hn, e0⟩ | ⟨rfl, hs, hn, e0⟩ | ⟨rfl, hs, hn, e0⟩ | ⟨rfl, hs, hn, e0⟩ | ⟨rfl, hs, hn, e0⟩
  all_goals
    rw [hs] at HS
    rw [hn] at HN
    clear hs hn h
    go_enter Tryz.func109, Tryz.ntmps109
    go_wp2_with (first
      | (go_at_call 23; refine (HS _ (by assumption)).mono ?_; rintro e w' ⟨rfl, hb⟩)
      | (go_at_call 41; refine (HN _ (by assumption)).mono ?_; rintro e w' ⟨rfl, hb⟩))
    go_ret
    exact ⟨za1 (by decide), by first | assumption | exact BW.new (by assumption) _⟩
theorem oc_f (op : Int) (h : 50 ≤ op ∧ op ≤ 57) : OcAt op := by
  intro w
  have HS := fun w1 h => za7 w w1 h op (by omega) (by omega)
  have HN := fun w1 h => za9 w w1 h op (by omega) (by omega)
  have HB : BW w w := Below.refl _ _
  rcases zV9 h with ⟨rfl, hs, hn, e0⟩ | ⟨rfl, hs, hn, e0⟩ | ⟨rfl, hs, hn, e0⟩ | ⟨rfl, hs, hn, e0⟩ | ⟨rfl, hs, hn, e0⟩ | ⟨rfl, hs, hn, e0⟩ | ⟨rfl, hs, hn, e0⟩ | ⟨rfl, hs, hn, e0⟩
  all_goals
    rw [hs] at HS
    rw [hn] at HN
    clear hs hn h
    go_enter Tryz.func109, Tryz.ntmps109
    go_wp2_with (first
      | (go_at_call 23; refine (HS _ (by assumption)).mono ?_; rintro e w' ⟨rfl, hb⟩)
      | (go_at_call 41; refine (HN _ (by assumption)).mono ?_; rintro e w' ⟨rfl, hb⟩))
    go_ret
    exact ⟨za1 (by decide), by first | assumption | exact BW.new (by assumption) _⟩
theorem oc_g (op : Int) (h : 58 ≤ op ∧ op ≤ 66) : OcAt op := by
  intro w
  have HS := fun w1 h => za7 w w1 h op (by omega) (by omega)
  have HN := fun w1 h => za9 w w1 h op (by omega) (by omega)
  have HB : BW w w := Below.refl _ _
  rcases zM4 h with ⟨rfl, hs, hn, e0⟩ | ⟨rfl, hs, hn, e0⟩ | ⟨rfl, hs, hn, e0⟩ | ⟨rfl, hs, hn, e0⟩ | ⟨rfl, hs, hn, e0⟩ | ⟨rfl, hs, hn, e0⟩ | ⟨rfl, hs, hn, e0⟩ | ⟨rfl, hs, hn, e0⟩ | ⟨rfl, hs, hn, e0⟩
  all_goals
    rw [hs] at HS
    rw [hn] at HN
    clear hs hn h
    go_enter Tryz.func109, Tryz.ntmps109
    go_wp2_with (first
      | (go_at_call 23; refine (HS _ (by assumption)).mono ?_; rintro e w' ⟨rfl, hb⟩)
      | (go_at_call 41; refine (HN _ (by assumption)).mono ?_; rintro e w' ⟨rfl, hb⟩))
    go_ret
    exact ⟨za1 (by decide), by first | assumption | exact BW.new (by assumption) _⟩
theorem oc_h (op : Int) (h : 67 ≤ op ∧ op ≤ 75) : OcAt op := by
  intro w
  have HS := fun w1 h => za7 w w1 h op (by omega) (by omega)
  have HN := fun w1 h => za9 w w1 h op (by omega) (by omega)
  have HB : BW w w := Below.refl _ _
  rcases zN5 h with ⟨rfl, hs, hn, e0⟩ | ⟨rfl, hs, hn, e0⟩ | ⟨rfl, hs, hn, e0⟩ | ⟨rfl, hs, hn, e0⟩ | ⟨rfl, hs, hn, e0⟩ | ⟨rfl, hs, hn, e0⟩ | ⟨rfl, hs, hn, e0⟩ | ⟨rfl, hs, hn, e0⟩ | ⟨rfl, hs, hn, e0⟩
  all_goals
    rw [hs] at HS
    rw [hn] at HN
    clear hs hn h
    go_enter Tryz.func109, Tryz.ntmps109
    go_wp2_with (first
      | (go_at_call 23; refine (HS _ (by assumption)).mono ?_; rintro e w' ⟨rfl, hb⟩)
      | (go_at_call 41; refine (HN _ (by assumption)).mono ?_; rintro e w' ⟨rfl, hb⟩))
    go_ret
    exact ⟨za1 (by decide), by first | assumption | exact BW.new (by assumption) _⟩
theorem oc_any (op : Int) (h : 1 ≤ op ∧ op ≤ 75) : OcAt op := by
  by_cases ha : op ≤ 10
  · exact oc_a op ⟨by omega, ha⟩
  by_cases hb : op ≤ 21
  · exact oc_b op ⟨by omega, hb⟩
  by_cases hc : op ≤ 30
  · exact oc_c op ⟨by omega, hc⟩
  by_cases hd : op ≤ 40
  · exact oc_d op ⟨by omega, hd⟩
  by_cases he : op ≤ 49
  · exact oc_e op ⟨by omega, he⟩
  by_cases hf : op ≤ 57
  · exact oc_f op ⟨by omega, hf⟩
  by_cases hg : op ≤ 66
  · exact oc_g op ⟨by omega, hg⟩
  exact oc_h op ⟨by omega, h.2⟩
end Go.Proofs.YtmamblgpekafbaaGreatDoor
namespace Go.Proofs.YtmamblgpekafbaaGreatDoor
open Go.RowKit
def FcAt (op : Int) : Prop := ∀ w : World, Calls Tryz.prog 110 #[.int .i64 op] w fun e w' => e = .returned (.int .u32 (f3V op)) ∧ BW w w'
theorem fc_a (op : Int) (h : 1 ≤ op ∧ op ≤ 10) : FcAt op := by
  intro w
  have HS := fun w1 h => za7 w w1 h op (by omega) (by omega)
  have HN := fun w1 h => za9 w w1 h op (by omega) (by omega)
  have HB : BW w w := Below.refl _ _
  rcases Za9 h with ⟨rfl, hs, hn, e0⟩ | ⟨rfl, hs, hn, e0⟩ | ⟨rfl, hs, hn, e0⟩ | ⟨rfl, hs, hn, e0⟩ | ⟨rfl, hs, hn, e0⟩ | ⟨rfl, hs, hn, e0⟩ | ⟨rfl, hs, hn, e0⟩ | ⟨rfl, hs, hn, e0⟩ | ⟨rfl, hs, hn, e0⟩ | ⟨rfl, hs, hn, e0⟩
  all_goals
    rw [hs] at HS
    rw [hn] at HN
    clear hs hn h
    go_enter Tryz.func110, Tryz.ntmps110
    go_wp2_with (first
      | (go_at_call 23; refine (HS _ (by assumption)).mono ?_; rintro e w' ⟨rfl, hb⟩)
      | (go_at_call 41; refine (HN _ (by assumption)).mono ?_; rintro e w' ⟨rfl, hb⟩))
    go_ret
    exact ⟨za1 (by decide), by first | assumption | exact BW.new (by assumption) _⟩
theorem fc_b (op : Int) (h : 11 ≤ op ∧ op ≤ 21) : FcAt op := by
  intro w
  have HS := fun w1 h => za7 w w1 h op (by omega) (by omega)
  have HN := fun w1 h => za9 w w1 h op (by omega) (by omega)
  have HB : BW w w := Below.refl _ _
  rcases zZ4 h with ⟨rfl, hs, hn, e0⟩ | ⟨rfl, hs, hn, e0⟩ | ⟨rfl, hs, hn, e0⟩ | ⟨rfl, hs, hn, e0⟩ | ⟨rfl, hs, hn, e0⟩ | ⟨rfl, hs, hn, e0⟩ | ⟨rfl, hs, hn, e0⟩ | ⟨rfl, hs, hn, e0⟩ | ⟨rfl, hs, hn, e0⟩ | ⟨rfl, hs, hn, e0⟩ | ⟨rfl, hs, hn, e0⟩
  all_goals
    rw [hs] at HS
    rw [hn] at HN
    clear hs hn h
    go_enter Tryz.func110, Tryz.ntmps110
    go_wp2_with (first
      | (go_at_call 23; refine (HS _ (by assumption)).mono ?_; rintro e w' ⟨rfl, hb⟩)
      | (go_at_call 41; refine (HN _ (by assumption)).mono ?_; rintro e w' ⟨rfl, hb⟩))
    go_ret
    exact ⟨za1 (by decide), by first | assumption | exact BW.new (by assumption) _⟩
theorem fc_c (op : Int) (h : 22 ≤ op ∧ op ≤ 30) : FcAt op := by
  intro w
  have HS := fun w1 h => za7 w w1 h op (by omega) (by omega)
  have HN := fun w1 h => za9 w w1 h op (by omega) (by omega)
  have HB : BW w w := Below.refl _ _
  rcases Zc9 h with ⟨rfl, hs, hn, e0⟩ | ⟨rfl, hs, hn, e0⟩ | ⟨rfl, hs, hn, e0⟩ | ⟨rfl, hs, hn, e0⟩ | ⟨rfl, hs, hn, e0⟩ | ⟨rfl, hs, hn, e0⟩ | ⟨rfl, hs, hn, e0⟩ | ⟨rfl, hs, hn, e0⟩ | ⟨rfl, hs, hn, e0⟩
  all_goals
    rw [hs] at HS
    rw [hn] at HN
    clear hs hn h
    go_enter Tryz.func110, Tryz.ntmps110
    go_wp2_with (first
      | (go_at_call 23; refine (HS _ (by assumption)).mono ?_; rintro e w' ⟨rfl, hb⟩)
      | (go_at_call 41; refine (HN _ (by assumption)).mono ?_; rintro e w' ⟨rfl, hb⟩))
    go_ret
    exact ⟨za1 (by decide), by first | assumption | exact BW.new (by assumption) _⟩
theorem fc_d (op : Int) (h : 31 ≤ op ∧ op ≤ 40) : FcAt op := by
  intro w
  have HS := fun w1 h => za7 w w1 h op (by omega) (by omega)
  have HN := fun w1 h => za9 w w1 h op (by omega) (by omega)
  have HB : BW w w := Below.refl _ _
  rcases Zg3 h with ⟨rfl, hs, hn, e0⟩ | ⟨rfl, hs, hn, e0⟩ | ⟨rfl, hs, hn, e0⟩ | ⟨rfl, hs, hn, e0⟩ | ⟨rfl, hs, hn, e0⟩ | ⟨rfl, hs, hn, e0⟩ | ⟨rfl, hs, hn, e0⟩ | ⟨rfl, hs, hn, e0⟩ | ⟨rfl, hs, hn, e0⟩ | ⟨rfl, hs, hn, e0⟩
  all_goals
    rw [hs] at HS
    rw [hn] at HN
    clear hs hn h
    go_enter Tryz.func110, Tryz.ntmps110
    go_wp2_with (first
      | (go_at_call 23; refine (HS _ (by assumption)).mono ?_; rintro e w' ⟨rfl, hb⟩)
      | (go_at_call 41; refine (HN _ (by assumption)).mono ?_; rintro e w' ⟨rfl, hb⟩))
    go_ret
    exact ⟨za1 (by decide), by first | assumption | exact BW.new (by assumption) _⟩
theorem fc_e (op : Int) (h : 41 ≤ op ∧ op ≤ 49) : FcAt op := by
  intro w
  have HS := fun w1 h => za7 w w1 h op (by omega) (by omega)
  have HN := fun w1 h => za9 w w1 h op (by omega) (by omega)
  have HB : BW w w := Below.refl _ _
  rcases Zm7 h with ⟨rfl, hs, hn, e0⟩ | ⟨rfl, hs, hn, e0⟩ | ⟨rfl, hs, hn, e0⟩ | ⟨rfl, hs, hn, e0⟩ | ⟨rfl, hs, hn, e0⟩ | ⟨rfl, hs, hn, e0⟩ | ⟨rfl, hs, hn, e0⟩ | ⟨rfl, hs, hn, e0⟩ | ⟨rfl, hs, hn, e0⟩
  all_goals
    rw [hs] at HS
    rw [hn] at HN
    clear hs hn h
    go_enter Tryz.func110, Tryz.ntmps110
    go_wp2_with (first
      | (go_at_call 23; refine (HS _ (by assumption)).mono ?_; rintro e w' ⟨rfl, hb⟩)
      | (go_at_call 41; refine (HN _ (by assumption)).mono ?_; rintro e w' ⟨rfl, hb⟩))
    go_ret
    exact ⟨za1 (by decide), by first | assumption | exact BW.new (by assumption) _⟩
theorem fc_f (op : Int) (h : 50 ≤ op ∧ op ≤ 57) : FcAt op := by
  intro w
  have HS := fun w1 h => za7 w w1 h op (by omega) (by omega)
  have HN := fun w1 h => za9 w w1 h op (by omega) (by omega)
  have HB : BW w w := Below.refl _ _
  rcases zV9 h with ⟨rfl, hs, hn, e0⟩ | ⟨rfl, hs, hn, e0⟩ | ⟨rfl, hs, hn, e0⟩ | ⟨rfl, hs, hn, e0⟩ | ⟨rfl, hs, hn, e0⟩ | ⟨rfl, hs, hn, e0⟩ | ⟨rfl, hs, hn, e0⟩ | ⟨rfl, hs, hn, e0⟩
  all_goals
    rw [hs] at HS
    rw [hn] at HN
    clear hs hn h
    go_enter Tryz.func110, Tryz.ntmps110
    go_wp2_with (first
      | (go_at_call 23; refine (HS _ (by assumption)).mono ?_; rintro e w' ⟨rfl, hb⟩)
      | (go_at_call 41; refine (HN _ (by assumption)).mono ?_; rintro e w' ⟨rfl, hb⟩))
    go_ret
    exact ⟨za1 (by decide), by first | assumption | exact BW.new (by assumption) _⟩
theorem fc_g (op : Int) (h : 58 ≤ op ∧ op ≤ 66) : FcAt op := by
  intro w
  have HS := fun w1 h => za7 w w1 h op (by omega) (by omega)
  have HN := fun w1 h => za9 w w1 h op (by omega) (by omega)
  have HB : BW w w := Below.refl _ _
  rcases zM4 h with ⟨rfl, hs, hn, e0⟩ | ⟨rfl, hs, hn, e0⟩ | ⟨rfl, hs, hn, e0⟩ | ⟨rfl, hs, hn, e0⟩ | ⟨rfl, hs, hn, e0⟩ | ⟨rfl, hs, hn, e0⟩ | ⟨rfl, hs, hn, e0⟩ | ⟨rfl, hs, hn, e0⟩ | ⟨rfl, hs, hn, e0⟩
  all_goals
    rw [hs] at HS
    rw [hn] at HN
    clear hs hn h
    go_enter Tryz.func110, Tryz.ntmps110
    go_wp2_with (first
      | (go_at_call 23; refine (HS _ (by assumption)).mono ?_; rintro e w' ⟨rfl, hb⟩)
      | (go_at_call 41; refine (HN _ (by assumption)).mono ?_; rintro e w' ⟨rfl, hb⟩))
    go_ret
    exact ⟨za1 (by decide), by first | assumption | exact BW.new (by assumption) _⟩
theorem fc_h (op : Int) (h : 67 ≤ op ∧ op ≤ 75) : FcAt op := by
  intro w
  have HS := fun w1 h => za7 w w1 h op (by omega) (by omega)
  have HN := fun w1 h => za9 w w1 h op (by omega) (by omega)
  have HB : BW w w := Below.refl _ _
  rcases zN5 h with ⟨rfl, hs, hn, e0⟩ | ⟨rfl, hs, hn, e0⟩ | ⟨rfl, hs, hn, e0⟩ | ⟨rfl, hs, hn, e0⟩ | ⟨rfl, hs, hn, e0⟩ | ⟨rfl, hs, hn, e0⟩ | ⟨rfl, hs, hn, e0⟩ | ⟨rfl, hs, hn, e0⟩ | ⟨rfl, hs, hn, e0⟩
  all_goals
    rw [hs] at HS
    rw [hn] at HN
    clear hs hn h
    go_enter Tryz.func110, Tryz.ntmps110
    go_wp2_with (first
      | (go_at_call 23; refine (HS _ (by assumption)).mono ?_; rintro e w' ⟨rfl, hb⟩)
      | (go_at_call 41; refine (HN _ (by assumption)).mono ?_; rintro e w' ⟨rfl, hb⟩))
    go_ret
    exact ⟨za1 (by decide), by first | assumption | exact BW.new (by assumption) _⟩
theorem fc_any (op : Int) (h : 1 ≤ op ∧ op ≤ 75) : FcAt op := by
  by_cases ha : op ≤ 10
  · exact fc_a op ⟨by omega, ha⟩
  by_cases hb : op ≤ 21
  · exact fc_b op ⟨by omega, hb⟩
  by_cases hc : op ≤ 30
  · exact fc_c op ⟨by omega, hc⟩
  by_cases hd : op ≤ 40
  · exact fc_d op ⟨by omega, hd⟩
  by_cases he : op ≤ 49
  · exact fc_e op ⟨by omega, he⟩
  by_cases hf : op ≤ 57
  · exact fc_f op ⟨by omega, hf⟩
  by_cases hg : op ≤ 66
  · exact fc_g op ⟨by omega, hg⟩
  exact fc_h op ⟨by omega, h.2⟩
end Go.Proofs.YtmamblgpekafbaaGreatDoor
namespace Go.Proofs.YtmamblgpekafbaaGreatDoor
open Go.RowKit
def TuAt (op : Int) : Prop := ∀ w : World, Calls Tryz.prog 111 #[.int .i64 op] w fun e w' => e = .returned (.bool (turB op)) ∧ BW w w'
def ShAt (op : Int) : Prop := ∀ w : World, Calls Tryz.prog 70 #[.int .i64 op] w fun e w' => e = .returned (.int .i64 (shV op)) ∧ BW w w'
theorem tu_a (op : Int) (h : 1 ≤ op ∧ op ≤ 10) : TuAt op := by
  intro w
  have HS := fun w1 h => za7 w w1 h op (by omega) (by omega)
  have HN := fun w1 h => za9 w w1 h op (by omega) (by omega)
  have HB : BW w w := Below.refl _ _
  rcases Za9 h with ⟨rfl, hs, hn, e0⟩ | ⟨rfl, hs, hn, e0⟩ | ⟨rfl, hs, hn, e0⟩ | ⟨rfl, hs, hn, e0⟩ | ⟨rfl, hs, hn, e0⟩ | ⟨rfl, hs, hn, e0⟩ | ⟨rfl, hs, hn, e0⟩ | ⟨rfl, hs, hn, e0⟩ | ⟨rfl, hs, hn, e0⟩ | ⟨rfl, hs, hn, e0⟩
  all_goals
    rw [hs] at HS
    rw [hn] at HN
    clear hs hn h
    go_enter Tryz.func111, Tryz.ntmps111
    go_wp2_with (first
      | (go_at_call 23; refine (HS _ (by assumption)).mono ?_; rintro e w' ⟨rfl, hb⟩)
      | (go_at_call 41; refine (HN _ (by assumption)).mono ?_; rintro e w' ⟨rfl, hb⟩))
    go_ret
    exact ⟨zb0 (by decide), by first | assumption | exact BW.new (by assumption) _⟩
theorem tu_b (op : Int) (h : 11 ≤ op ∧ op ≤ 21) : TuAt op := by
  intro w
  have HS := fun w1 h => za7 w w1 h op (by omega) (by omega)
  have HN := fun w1 h => za9 w w1 h op (by omega) (by omega)
  have HB : BW w w := Below.refl _ _
  rcases zZ4 h with ⟨rfl, hs, hn, e0⟩ | ⟨rfl, hs, hn, e0⟩ | ⟨rfl, hs, hn, e0⟩ | ⟨rfl, hs, hn, e0⟩ | ⟨rfl, hs, hn, e0⟩ | ⟨rfl, hs, hn, e0⟩ | ⟨rfl, hs, hn, e0⟩ | ⟨rfl, hs, hn, e0⟩ | ⟨rfl, hs, hn, e0⟩ | ⟨rfl, hs, hn, e0⟩ | ⟨rfl, hs, hn, e0⟩
  all_goals
    rw [hs] at HS
    rw [hn] at HN
    clear hs hn h
    go_enter Tryz.func111, Tryz.ntmps111
    go_wp2_with (first
      | (go_at_call 23; refine (HS _ (by assumption)).mono ?_; rintro e w' ⟨rfl, hb⟩)
      | (go_at_call 41; refine (HN _ (by assumption)).mono ?_; rintro e w' ⟨rfl, hb⟩))
    go_ret
    exact ⟨zb0 (by decide), by first | assumption | exact BW.new (by assumption) _⟩
theorem tu_c (op : Int) (h : 22 ≤ op ∧ op ≤ 30) : TuAt op := by
  intro w
  have HS := fun w1 h => za7 w w1 h op (by omega) (by omega)
  have HN := fun w1 h => za9 w w1 h op (by omega) (by omega)
  have HB : BW w w := Below.refl _ _
  rcases Zc9 h with ⟨rfl, hs, hn, e0⟩ | ⟨rfl, hs, hn, e0⟩ | ⟨rfl, hs, hn, e0⟩ | ⟨rfl, hs, hn, e0⟩ | ⟨rfl, hs, hn, e0⟩ | ⟨rfl, hs, hn, e0⟩ | ⟨rfl, hs, hn, e0⟩ | ⟨rfl, hs, hn, e0⟩ | ⟨rfl, hs, hn, e0⟩
  all_goals
    rw [hs] at HS
    rw [hn] at HN
    clear hs hn h
    go_enter Tryz.func111, Tryz.ntmps111
    go_wp2_with (first
      | (go_at_call 23; refine (HS _ (by assumption)).mono ?_; rintro e w' ⟨rfl, hb⟩)
      | (go_at_call 41; refine (HN _ (by assumption)).mono ?_; rintro e w' ⟨rfl, hb⟩))
    go_ret
    exact ⟨zb0 (by decide), by first | assumption | exact BW.new (by assumption) _⟩
theorem tu_d (op : Int) (h : 31 ≤ op ∧ op ≤ 40) : TuAt op := by
  intro w
  have HS := fun w1 h => za7 w w1 h op (by omega) (by omega)
  have HN := fun w1 h => za9 w w1 h op (by omega) (by omega)
  have HB : BW w w := Below.refl _ _
  rcases Zg3 h with ⟨rfl, hs, hn, e0⟩ | ⟨rfl, hs, hn, e0⟩ | ⟨rfl, hs, hn, e0⟩ | ⟨rfl, hs, hn, e0⟩ | ⟨rfl, hs, hn, e0⟩ | ⟨rfl, hs, hn, e0⟩ | ⟨rfl, hs, hn, e0⟩ | ⟨rfl, hs, hn, e0⟩ | ⟨rfl, hs, hn, e0⟩ | ⟨rfl, hs, hn, e0⟩
  all_goals
    rw [hs] at HS
    rw [hn] at HN
    clear hs hn h
    go_enter Tryz.func111, Tryz.ntmps111
    go_wp2_with (first
      | (go_at_call 23; refine (HS _ (by assumption)).mono ?_; rintro e w' ⟨rfl, hb⟩)
      | (go_at_call 41; refine (HN _ (by assumption)).mono ?_; rintro e w' ⟨rfl, hb⟩))
    go_ret
    exact ⟨zb0 (by decide), by first | assumption | exact BW.new (by assumption) _⟩
theorem tu_e (op : Int) (h : 41 ≤ op ∧ op ≤ 49) : TuAt op := by
  intro w
  have HS := fun w1 h => za7 w w1 h op (by omega) (by omega)
  have HN := fun w1 h => za9 w w1 h op (by omega) (by omega)
  have HB : BW w w := Below.refl _ _
  rcases Zm7 h with ⟨rfl, hs, hn, e0⟩ | ⟨rfl, hs, hn, e0⟩ | ⟨rfl, hs, hn, e0⟩ | ⟨rfl, hs, hn, e0⟩ | ⟨rfl, hs, hn, e0⟩ | ⟨rfl, hs, hn, e0⟩ | ⟨rfl, hs, hn, e0⟩ | ⟨rfl, hs, hn, e0⟩ | ⟨rfl, hs, hn, e0⟩
  all_goals
    rw [hs] at HS
    rw [hn] at HN
    clear hs hn h
    go_enter Tryz.func111, Tryz.ntmps111
    go_wp2_with (first
      | (go_at_call 23; refine (HS _ (by assumption)).mono ?_; rintro e w' ⟨rfl, hb⟩)
      | (go_at_call 41; refine (HN _ (by assumption)).mono ?_; rintro e w' ⟨rfl, hb⟩))
    go_ret
    exact ⟨zb0 (by decide), by first | assumption | exact BW.new (by assumption) _⟩
theorem tu_f (op : Int) (h : 50 ≤ op ∧ op ≤ 57) : TuAt op := by
  intro w
  have HS := fun w1 h => za7 w w1 h op (by omega) (by omega)
  have HN := fun w1 h => za9 w w1 h op (by omega) (by omega)
  have HB : BW w w := Below.refl _ _
  rcases zV9 h with ⟨rfl, hs, hn, e0⟩ | ⟨rfl, hs, hn, e0⟩ | ⟨rfl, hs, hn, e0⟩ | ⟨rfl, hs, hn, e0⟩ | ⟨rfl, hs, hn, e0⟩ | ⟨rfl, hs, hn, e0⟩ | ⟨rfl, hs, hn, e0⟩ | ⟨rfl, hs, hn, e0⟩
  all_goals
    rw [hs] at HS
    rw [hn] at HN
    clear hs hn h
    go_enter Tryz.func111, Tryz.ntmps111
    go_wp2_with (first
      | (go_at_call 23; refine (HS _ (by assumption)).mono ?_; rintro e w' ⟨rfl, hb⟩)
      | (go_at_call 41; refine (HN _ (by assumption)).mono ?_; rintro e w' ⟨rfl, hb⟩))
    go_ret
    exact ⟨zb0 (by decide), by first | assumption | exact BW.new (by assumption) _⟩
theorem tu_g (op : Int) (h : 58 ≤ op ∧ op ≤ 66) : TuAt op := by
  intro w
  have HS := fun w1 h => za7 w w1 h op (by omega) (by omega)
  have HN := fun w1 h => za9 w w1 h op (by omega) (by omega)
  have HB : BW w w := Below.refl _ _
  rcases zM4 h with ⟨rfl, hs, hn, e0⟩ | ⟨rfl, hs, hn, e0⟩ | ⟨rfl, hs, hn, e0⟩ | ⟨rfl, hs, hn, e0⟩ | ⟨rfl, hs, hn, e0⟩ | ⟨rfl, hs, hn, e0⟩ | ⟨rfl, hs, hn, e0⟩ | ⟨rfl, hs, hn, e0⟩ | ⟨rfl, hs, hn, e0⟩
  all_goals
    rw [hs] at HS
    rw [hn] at HN
    clear hs hn h
    go_enter Tryz.func111, Tryz.ntmps111
    go_wp2_with (first
      | (go_at_call 23; refine (HS _ (by assumption)).mono ?_; rintro e w' ⟨rfl, hb⟩)
      | (go_at_call 41; refine (HN _ (by assumption)).mono ?_; rintro e w' ⟨rfl, hb⟩))
    go_ret
    exact ⟨zb0 (by decide), by first | assumption | exact BW.new (by assumption) _⟩
theorem tu_h (op : Int) (h : 67 ≤ op ∧ op ≤ 75) : TuAt op := by
  intro w
  have HS := fun w1 h => za7 w w1 h op (by omega) (by omega)
  have HN := fun w1 h => za9 w w1 h op (by omega) (by omega)
  have HB : BW w w := Below.refl _ _
  rcases zN5 h with ⟨rfl, hs, hn, e0⟩ | ⟨rfl, hs, hn, e0⟩ | ⟨rfl, hs, hn, e0⟩ | ⟨rfl, hs, hn, e0⟩ | ⟨rfl, hs, hn, e0⟩ | ⟨rfl, hs, hn, e0⟩ | ⟨rfl, hs, hn, e0⟩ | ⟨rfl, hs, hn, e0⟩ | ⟨rfl, hs, hn, e0⟩
  all_goals
    rw [hs] at HS
    rw [hn] at HN
    clear hs hn h
    go_enter Tryz.func111, Tryz.ntmps111
    go_wp2_with (first
      | (go_at_call 23; refine (HS _ (by assumption)).mono ?_; rintro e w' ⟨rfl, hb⟩)
      | (go_at_call 41; refine (HN _ (by assumption)).mono ?_; rintro e w' ⟨rfl, hb⟩))
    go_ret
    exact ⟨zb0 (by decide), by first | assumption | exact BW.new (by assumption) _⟩
theorem tu_any (op : Int) (h : 1 ≤ op ∧ op ≤ 75) : TuAt op := by
  by_cases ha : op ≤ 10
  · exact tu_a op ⟨by omega, ha⟩
  by_cases hb : op ≤ 21
  · exact tu_b op ⟨by omega, hb⟩
  by_cases hc : op ≤ 30
  · exact tu_c op ⟨by omega, hc⟩
  by_cases hd : op ≤ 40
  · exact tu_d op ⟨by omega, hd⟩
  by_cases he : op ≤ 49
  · exact tu_e op ⟨by omega, he⟩
  by_cases hf : op ≤ 57
  · exact tu_f op ⟨by omega, hf⟩
  by_cases hg : op ≤ 66
  · exact tu_g op ⟨by omega, hg⟩
  exact tu_h op ⟨by omega, h.2⟩
theorem sh_a (op : Int) (h : 1 ≤ op ∧ op ≤ 10) : ShAt op := by
  intro w
  have HS := fun w1 h => za7 w w1 h op (by omega) (by omega)
  have HN := fun w1 h => za9 w w1 h op (by omega) (by omega)
  have HB : BW w w := Below.refl _ _
  rcases Za9 h with ⟨rfl, hs, hn, e0⟩ | ⟨rfl, hs, hn, e0⟩ | ⟨rfl, hs, hn, e0⟩ | ⟨rfl, hs, hn, e0⟩ | ⟨rfl, hs, hn, e0⟩ | ⟨rfl, hs, hn, e0⟩ | ⟨rfl, hs, hn, e0⟩ | ⟨rfl, hs, hn, e0⟩ | ⟨rfl, hs, hn, e0⟩ | ⟨rfl, hs, hn, e0⟩
  all_goals
    rw [hs] at HS
    rw [hn] at HN
    clear hs hn h
    go_enter Tryz.func70, Tryz.ntmps70
    go_wp2_with (first
      | (go_at_call 23; refine (HS _ (by assumption)).mono ?_; rintro e w' ⟨rfl, hb⟩)
      | (go_at_call 41; refine (HN _ (by assumption)).mono ?_; rintro e w' ⟨rfl, hb⟩))
    go_ret
    exact ⟨za1 (by decide), by first | assumption | exact BW.new (by assumption) _⟩
theorem sh_b (op : Int) (h : 11 ≤ op ∧ op ≤ 21) : ShAt op := by
  intro w
  have HS := fun w1 h => za7 w w1 h op (by omega) (by omega)
  have HN := fun w1 h => za9 w w1 h op (by omega) (by omega)
  have HB : BW w w := Below.refl _ _
  rcases zZ4 h with ⟨rfl, hs, hn, e0⟩ | ⟨rfl, hs, hn, e0⟩ | ⟨rfl, hs, hn, e0⟩ | ⟨rfl, hs, hn, e0⟩ | ⟨rfl, hs, hn, e0⟩ | ⟨rfl, hs, hn, e0⟩ | ⟨rfl, hs, hn, e0⟩ | ⟨rfl, hs, hn, e0⟩ | ⟨rfl, hs, hn, e0⟩ | ⟨rfl, hs, hn, e0⟩ | ⟨rfl, hs, hn, e0⟩
  all_goals
    rw [hs] at HS
    rw [hn] at HN
    clear hs hn h
    go_enter Tryz.func70, Tryz.ntmps70
    go_wp2_with (first
      | (go_at_call 23; refine (HS _ (by assumption)).mono ?_; rintro e w' ⟨rfl, hb⟩)
      | (go_at_call 41; refine (HN _ (by assumption)).mono ?_; rintro e w' ⟨rfl, hb⟩))
    go_ret
    exact ⟨za1 (by decide), by first | assumption | exact BW.new (by assumption) _⟩
theorem sh_c (op : Int) (h : 22 ≤ op ∧ op ≤ 30) : ShAt op := by
  intro w
  have HS := fun w1 h => za7 w w1 h op (by omega) (by omega)
  have HN := fun w1 h => za9 w w1 h op (by omega) (by omega)
  have HB : BW w w := Below.refl _ _
  rcases Zc9 h with ⟨rfl, hs, hn, e0⟩ | ⟨rfl, hs, hn, e0⟩ | ⟨rfl, hs, hn, e0⟩ | ⟨rfl, hs, hn, e0⟩ | ⟨rfl, hs, hn, e0⟩ | ⟨rfl, hs, hn, e0⟩ | ⟨rfl, hs, hn, e0⟩ | ⟨rfl, hs, hn, e0⟩ | ⟨rfl, hs, hn, e0⟩
  all_goals
    rw [hs] at HS
    rw [hn] at HN
    clear hs hn h
    go_enter Tryz.func70, Tryz.ntmps70
    go_wp2_with (first
      | (go_at_call 23; refine (HS _ (by assumption)).mono ?_; rintro e w' ⟨rfl, hb⟩)
      | (go_at_call 41; refine (HN _ (by assumption)).mono ?_; rintro e w' ⟨rfl, hb⟩))
    go_ret
    exact ⟨za1 (by decide), by first | assumption | exact BW.new (by assumption) _⟩
theorem sh_d (op : Int) (h : 31 ≤ op ∧ op ≤ 40) : ShAt op := by
  intro w
  have HS := fun w1 h => za7 w w1 h op (by omega) (by omega)
  have HN := fun w1 h => za9 w w1 h op (by omega) (by omega)
  have HB : BW w w := Below.refl _ _
  rcases Zg3 h with ⟨rfl, hs, hn, e0⟩ | ⟨rfl, hs, hn, e0⟩ | ⟨rfl, hs, hn, e0⟩ | ⟨rfl, hs, hn, e0⟩ | ⟨rfl, hs, hn, e0⟩ | ⟨rfl, hs, hn, e0⟩ | ⟨rfl, hs, hn, e0⟩ | ⟨rfl, hs, hn, e0⟩ | ⟨rfl, hs, hn, e0⟩ | ⟨rfl, hs, hn, e0⟩
  all_goals
    rw [hs] at HS
    rw [hn] at HN
    clear hs hn h
    go_enter Tryz.func70, Tryz.ntmps70
    go_wp2_with (first
      | (go_at_call 23; refine (HS _ (by assumption)).mono ?_; rintro e w' ⟨rfl, hb⟩)
      | (go_at_call 41; refine (HN _ (by assumption)).mono ?_; rintro e w' ⟨rfl, hb⟩))
    go_ret
    exact ⟨za1 (by decide), by first | assumption | exact BW.new (by assumption) _⟩
theorem sh_e (op : Int) (h : 41 ≤ op ∧ op ≤ 49) : ShAt op := by
  intro w
  have HS := fun w1 h => za7 w w1 h op (by omega) (by omega)
  have HN := fun w1 h => za9 w w1 h op (by omega) (by omega)
  have HB : BW w w := Below.refl _ _
  rcases Zm7 h with ⟨rfl, hs, hn, e0⟩ | ⟨rfl, hs, hn, e0⟩ | ⟨rfl, hs, hn, e0⟩ | ⟨rfl, hs, hn, e0⟩ | ⟨rfl, hs, hn, e0⟩ | ⟨rfl, hs, hn, e0⟩ | ⟨rfl, hs, hn, e0⟩ | ⟨rfl, hs, hn, e0⟩ | ⟨rfl, hs, hn, e0⟩
  all_goals
    rw [hs] at HS
    rw [hn] at HN
    clear hs hn h
    go_enter Tryz.func70, Tryz.ntmps70
    go_wp2_with (first
      | (go_at_call 23; refine (HS _ (by assumption)).mono ?_; rintro e w' ⟨rfl, hb⟩)
      | (go_at_call 41; refine (HN _ (by assumption)).mono ?_; rintro e w' ⟨rfl, hb⟩))
    go_ret
    exact ⟨za1 (by decide), by first | assumption | exact BW.new (by assumption) _⟩
theorem sh_f (op : Int) (h : 50 ≤ op ∧ op ≤ 57) : ShAt op := by
  intro w
  have HS := fun w1 h => za7 w w1 h op (by omega) (by omega)
  have HN := fun w1 h => za9 w w1 h op (by omega) (by omega)
  have HB : BW w w := Below.refl _ _
  rcases zV9 h with ⟨rfl, hs, hn, e0⟩ | ⟨rfl, hs, hn, e0⟩ | ⟨rfl, hs, hn, e0⟩ | ⟨rfl, hs, hn, e0⟩ | ⟨rfl, hs, hn, e0⟩ | ⟨rfl, hs, hn, e0⟩ | ⟨rfl, hs, hn, e0⟩ | ⟨rfl, hs, hn, e0⟩
  all_goals
    rw [hs] at HS
    rw [hn] at HN
    clear hs hn h
    go_enter Tryz.func70, Tryz.ntmps70
    go_wp2_with (first
      | (go_at_call 23; refine (HS _ (by assumption)).mono ?_; rintro e w' ⟨rfl, hb⟩)
      | (go_at_call 41; refine (HN _ (by assumption)).mono ?_; rintro e w' ⟨rfl, hb⟩))
    go_ret
    exact ⟨za1 (by decide), by first | assumption | exact BW.new (by assumption) _⟩
theorem sh_g (op : Int) (h : 58 ≤ op ∧ op ≤ 66) : ShAt op := by
  intro w
  have HS := fun w1 h => za7 w w1 h op (by omega) (by omega)
  have HN := fun w1 h => za9 w w1 h op (by omega) (by omega)
  have HB : BW w w := Below.refl _ _
  rcases zM4 h with ⟨rfl, hs, hn, e0⟩ | ⟨rfl, hs, hn, e0⟩ | ⟨rfl, hs, hn, e0⟩ | ⟨rfl, hs, hn, e0⟩ | ⟨rfl, hs, hn, e0⟩ | ⟨rfl, hs, hn, e0⟩ | ⟨rfl, hs, hn, e0⟩ | ⟨rfl, hs, hn, e0⟩ | ⟨rfl, hs, hn, e0⟩
  all_goals
    rw [hs] at HS
    rw [hn] at HN
    clear hs hn h
    go_enter Tryz.func70, Tryz.ntmps70
    go_wp2_with (first
      | (go_at_call 23; refine (HS _ (by assumption)).mono ?_; rintro e w' ⟨rfl, hb⟩)
      | (go_at_call 41; refine (HN _ (by assumption)).mono ?_; rintro e w' ⟨rfl, hb⟩))
    go_ret
    exact ⟨za1 (by decide), by first | assumption | exact BW.new (by assumption) _⟩
theorem sh_h (op : Int) (h : 67 ≤ op ∧ op ≤ 75) : ShAt op := by
  intro w
  have HS := fun w1 h => za7 w w1 h op (by omega) (by omega)
  have HN := fun w1 h => za9 w w1 h op (by omega) (by omega)
  have HB : BW w w := Below.refl _ _
  rcases zN5 h with ⟨rfl, hs, hn, e0⟩ | ⟨rfl, hs, hn, e0⟩ | ⟨rfl, hs, hn, e0⟩ | ⟨rfl, hs, hn, e0⟩ | ⟨rfl, hs, hn, e0⟩ | ⟨rfl, hs, hn, e0⟩ | ⟨rfl, hs, hn, e0⟩ | ⟨rfl, hs, hn, e0⟩ | ⟨rfl, hs, hn, e0⟩
  all_goals
    rw [hs] at HS
    rw [hn] at HN
    clear hs hn h
    go_enter Tryz.func70, Tryz.ntmps70
    go_wp2_with (first
      | (go_at_call 23; refine (HS _ (by assumption)).mono ?_; rintro e w' ⟨rfl, hb⟩)
      | (go_at_call 41; refine (HN _ (by assumption)).mono ?_; rintro e w' ⟨rfl, hb⟩))
    go_ret
    exact ⟨za1 (by decide), by first | assumption | exact BW.new (by assumption) _⟩
theorem Zb8 (op : Int) (h : 1 ≤ op ∧ op ≤ 75) : ShAt op := by
  by_cases ha : op ≤ 10
  · exact sh_a op ⟨by omega, ha⟩
  by_cases hb : op ≤ 21
  · exact sh_b op ⟨by omega, hb⟩
  by_cases hc : op ≤ 30
  · exact sh_c op ⟨by omega, hc⟩
  by_cases hd : op ≤ 40
  · exact sh_d op ⟨by omega, hd⟩
  by_cases he : op ≤ 49
  · exact sh_e op ⟨by omega, he⟩
  by_cases hf : op ≤ 57
  · exact sh_f op ⟨by omega, hf⟩
  by_cases hg : op ≤ 66
  · exact sh_g op ⟨by omega, hg⟩
  exact sh_h op ⟨by omega, h.2⟩
end Go.Proofs.YtmamblgpekafbaaGreatDoor
namespace Go.Proofs.YtmamblgpekafbaaGreatDoor
open Go.RowKit
def FmAt (op : Int) : Prop := ∀ w : World, Calls Tryz.prog 68 #[.int .i64 op] w fun e w' => e = .returned (.int .i64 (fmV op)) ∧ BW w w'
def FvAt (op : Int) : Prop := ∀ w : World, Calls Tryz.prog 112 #[.int .i64 op] w fun e w' => e = .returned (.int .u32 (agV op)) ∧ BW w w'
theorem fm_kinds : ∀ k : Fin 75, (shV ((k.val : Int) + 1) ≠ 0 ∧ 0 < shV ((k.val : Int) + 1) ∧ fmV ((k.val : Int) + 1) = 0) ∨ (shV ((k.val : Int) + 1) = 0 ∧ ((srt ((k.val : Int) + 1) = 1 ∧ fmV ((k.val : Int) + 1) = 4) ∨ ((k.val : Int) + 1 = 3 ∧ srt ((k.val : Int) + 1) = 2 ∧ fmV ((k.val : Int) + 1) = 5) ∨ (srt ((k.val : Int) + 1) = 2 ∧ (k.val : Int) + 1 ≠ 3 ∧ fmV ((k.val : Int) + 1) = 1) ∨ (srt ((k.val : Int) + 1) = 3 ∧ fmV ((k.val : Int) + 1) = 3) ∨ (srt ((k.val : Int) + 1) = 4 ∧ fmV ((k.val : Int) + 1) = 1) ∨ (srt ((k.val : Int) + 1) = 6 ∧ fmV ((k.val : Int) + 1) = 1) ∨ (srt ((k.val : Int) + 1) = 5 ∧ fmV ((k.val : Int) + 1) = 2) ∨ (7 ≤ srt ((k.val : Int) + 1) ∧ fmV ((k.val : Int) + 1) = 0))) := by decide
theorem fm_any (op : Int) (h : 1 ≤ op ∧ op ≤ 75) : FmAt op := by
  intro w
  have HS := fun w1 h => za7 w w1 h op (by omega) (by omega)
  have HH : ∀ w1, BW w w1 → Calls Tryz.prog 70 #[.int .i64 op] w1 fun e w' => e = .returned (.int .i64 (shV op)) ∧ BW w w' := fun w1 hb => (Zb8 op h w1).mono fun _ _ ⟨he, hc⟩ => ⟨he, hb.on hc⟩
  have HB : BW w w := Below.refl _ _
  have hk := fm_kinds ⟨op.toNat - 1, by omega⟩
  simp only [show ((op.toNat - 1 : Nat) : Int) + 1 = op by omega] at hk
  clear h
  rcases hk with ⟨_, hs, hf⟩ | ⟨hz, hk⟩
  · rw [hf]
    generalize shV op = s at *
    generalize srt op = k at *
    clear hf
    go_enter Tryz.func68, Tryz.ntmps68
    go_wp2_with (first
      | (go_at_call 23; refine (HS _ (by assumption)).mono ?_; rintro e w' ⟨rfl, hb⟩)
      | (go_at_call 70; refine (HH _ (by assumption)).mono ?_; rintro e w' ⟨rfl, hb⟩))
    go_ret
    exact ⟨rfl, by assumption⟩
  · rw [hz] at HH
    clear hz
    rcases hk with ⟨hk, hf⟩ | ⟨rfl, hk, hf⟩ | ⟨hk, hn, hf⟩ | ⟨hk, hf⟩ | ⟨hk, hf⟩ | ⟨hk, hf⟩ | ⟨hk, hf⟩ | ⟨hk, hf⟩
    all_goals
      try (have b3 : (op == 3) = false := by simpa using hn)
      rw [hf]
      first | rw [hk] at HS | generalize srt op = k at *
      clear hf
      go_enter Tryz.func68, Tryz.ntmps68
      go_wp2_with (first
        | (go_at_call 23; refine (HS _ (by assumption)).mono ?_; rintro e w' ⟨rfl, hb⟩)
        | (go_at_call 70; refine (HH _ (by assumption)).mono ?_; rintro e w' ⟨rfl, hb⟩))
      go_ret
      exact ⟨rfl, by assumption⟩
theorem fv_any (op : Int) (h : 54 ≤ op ∧ op ≤ 75) : FvAt op := by
  have hc : op = 54 ∨ op = 55 ∨ op = 56 ∨ op = 57 ∨ op = 58 ∨ op = 59 ∨ op = 60 ∨ op = 61 ∨ op = 62 ∨ op = 63 ∨ op = 64 ∨ op = 65 ∨ op = 66 ∨ op = 67 ∨ op = 68 ∨ op = 69 ∨ op = 70 ∨ op = 71 ∨ op = 72 ∨ op = 73 ∨ op = 74 ∨ op = 75 := by omega
  rcases hc with rfl | rfl | rfl | rfl | rfl | rfl | rfl | rfl | rfl | rfl | rfl | rfl | rfl | rfl | rfl | rfl | rfl | rfl | rfl | rfl | rfl | rfl
  all_goals
    intro w
    go_enter Tryz.func112, Tryz.ntmps112
    go_wp2
    go_ret
    exact ⟨za1 (by decide), by first | exact Below.refl _ _ | exact BW.new (Below.refl _ _) _⟩
end Go.Proofs.YtmamblgpekafbaaGreatDoor
namespace Go.Proofs.YtmamblgpekafbaaGreatDoor
open Go.RowKit
def IsAt (op : Int) : Prop := ∀ (v : Int) (w : World), 0 ≤ v → v < 4294967296 → Calls Tryz.prog 64 #[.int .u32 v, .int .i64 op] w fun e w' => e = .returned (.bool (iswB v op)) ∧ BW w w'
theorem zj7 {v op : Int} {c : Bool} (h : c = true ↔ Isw v op) : c = iswB v op := by unfold iswB; rw [Bool.eq_iff_iff, h, decide_eq_true_eq]
theorem zj5 (x y : Int) : (Hid (x = y) ∧ (x != y) = false) ∨ (Hid (x ≠ y) ∧ (x != y) = true) := by
  by_cases h : x = y
  · exact .inl ⟨h, by simp [h]⟩
  · exact .inr ⟨h, by simp [h]⟩
theorem zy4 (x y : Int) : (Hid (x = y) ∧ (x == y) = true) ∨ (Hid (x ≠ y) ∧ (x == y) = false) := by
  by_cases h : x = y
  · exact .inl ⟨h, by simp [h]⟩
  · exact .inr ⟨h, by simp [h]⟩
def Kf (op : Int) : Prop :=
  (kdV op = 0 ∧ srt op = 1) ∨ (kdV op = 0 ∧ op = 3 ∧ srt op = 2) ∨ (kdV op = 1 ∧ 1 < srt op ∧ srt op < 7 ∧ op ≠ 3 ∧ shV op = 0) ∨
  (kdV op = 2 ∧ srt op = 7 ∧ op ≠ 3 ∧ ((turB op = true ∧ agV op = 32) ∨ (turB op = false ∧ agV op = 0))) ∨ (kdV op = 2 ∧ srt op = 6 ∧ op ≠ 3 ∧ shV op = 5 ∧ ((turB op = true ∧ agV op = 32) ∨ (turB op = false ∧ agV op = 0))) ∨
  (kdV op = 3 ∧ srt op = 6 ∧ op ≠ 3 ∧ shV op = 6 ∧ ((turB op = true ∧ agV op = 16) ∨ (turB op = false ∧ agV op = 0))) ∨ (kdV op = 4 ∧ srt op = 10 ∧ op ≠ 3 ∧ shV op = 0 ∧ 54 ≤ op) ∨ (kdV op = 5 ∧ 10 < srt op ∧ op ≠ 3 ∧ shV op = 0 ∧ 54 ≤ op) ∨
  (op = 50) ∨ (op = 51) ∨ (op = 52) ∨ (op = 53)
instance (op : Int) : Decidable (Kf op) := by unfold Kf; infer_instance
theorem kf_all : ∀ k : Fin 75, Kf ((k.val : Int) + 1) := by decide
section
variable (op : Int) (h : 1 ≤ op ∧ op ≤ 75) (w : World)
include h
theorem i_s : ∀ w1, BW w w1 → Calls Tryz.prog 23 #[.int .i64 op] w1 fun e w' => e = .returned (.int .i64 (srt op)) ∧ BW w w' := fun w1 hb => za7 w w1 hb op (by omega) (by omega)
theorem i_o : ∀ w1, BW w w1 → Calls Tryz.prog 109 #[.int .i64 op] w1 fun e w' => e = .returned (.int .u32 (ocV op)) ∧ BW w w' := fun w1 hb => (oc_any op h w1).mono fun _ _ ⟨he, hc⟩ => ⟨he, hb.on hc⟩
theorem i_f : ∀ w1, BW w w1 → Calls Tryz.prog 110 #[.int .i64 op] w1 fun e w' => e = .returned (.int .u32 (f3V op)) ∧ BW w w' := fun w1 hb => (fc_any op h w1).mono fun _ _ ⟨he, hc⟩ => ⟨he, hb.on hc⟩
theorem i_t : ∀ w1, BW w w1 → Calls Tryz.prog 111 #[.int .i64 op] w1 fun e w' => e = .returned (.bool (turB op)) ∧ BW w w' := fun w1 hb => (tu_any op h w1).mono fun _ _ ⟨he, hc⟩ => ⟨he, hb.on hc⟩
theorem i_h : ∀ w1, BW w w1 → Calls Tryz.prog 70 #[.int .i64 op] w1 fun e w' => e = .returned (.int .i64 (shV op)) ∧ BW w w' := fun w1 hb => (Zb8 op h w1).mono fun _ _ ⟨he, hc⟩ => ⟨he, hb.on hc⟩
omit h in
theorem i_v (h : 54 ≤ op ∧ op ≤ 75) : ∀ w1, BW w w1 → Calls Tryz.prog 112 #[.int .i64 op] w1 fun e w' => e = .returned (.int .u32 (agV op)) ∧ BW w w' := fun w1 hb => (fv_any op h w1).mono fun _ _ ⟨he, hc⟩ => ⟨he, hb.on hc⟩
end
theorem is_0a (op : Int) (h : 1 ≤ op ∧ op ≤ 75) (hk : kdV op = 0) (hs : srt op = 1) : IsAt op := by
  intro v w v0 v1
  have HB : BW w w := Below.refl _ _
  have HS := i_s op h w
  have HO := i_o op h w
  have HF := i_f op h w
  have HT := i_t op h w
  have HH := i_h op h w
  have HI : Hid (Isw v op ↔ v % 128 = ocV op) := by
    show _ ↔ _
    unfold Isw
    rw [hk]
    simp
  rw [hs] at HS
  generalize ocV op = oc at *
  clear hk h hs HF HT HH
  rcases zj5 (v % 128) oc with ⟨H0, b0⟩ | ⟨H0, b0⟩
  all_goals
    go_enter Tryz.func64, Tryz.ntmps64
    go_wp2_with (first
      | (go_at_call 23; refine (HS _ (by assumption)).mono ?_; rintro e w' ⟨rfl, hb⟩)
      | (go_at_call 109; refine (HO _ (by assumption)).mono ?_; rintro e w' ⟨rfl, hb⟩)
      | (go_at_call 110; refine (HF _ (by assumption)).mono ?_; rintro e w' ⟨rfl, hb⟩)
      | (go_at_call 111; refine (HT _ (by assumption)).mono ?_; rintro e w' ⟨rfl, hb⟩)
      | (go_at_call 70; refine (HH _ (by assumption)).mono ?_; rintro e w' ⟨rfl, hb⟩))
    go_ret
    refine ⟨zb0 (zj7 ?_), by assumption⟩
    rw [HI.out]
    have h0 := H0.out
    simp
    try omega
theorem is_0b (op : Int) (h : 1 ≤ op ∧ op ≤ 75) (hk : kdV op = 0) (hn : op = 3) (hs : srt op = 2) : IsAt op := by
  intro v w v0 v1
  have HB : BW w w := Below.refl _ _
  have HS := i_s op h w
  have HO := i_o op h w
  have HF := i_f op h w
  have HT := i_t op h w
  have HH := i_h op h w
  have HI : Hid (Isw v op ↔ v % 128 = ocV op) := by
    show _ ↔ _
    unfold Isw
    rw [hk]
    simp
  rw [hs] at HS
  subst hn
  generalize ocV 3 = oc at *
  clear hk h hs HF HT HH
  rcases zj5 (v % 128) oc with ⟨H0, b0⟩ | ⟨H0, b0⟩
  all_goals
    go_enter Tryz.func64, Tryz.ntmps64
    go_wp2_with (first
      | (go_at_call 23; refine (HS _ (by assumption)).mono ?_; rintro e w' ⟨rfl, hb⟩)
      | (go_at_call 109; refine (HO _ (by assumption)).mono ?_; rintro e w' ⟨rfl, hb⟩)
      | (go_at_call 110; refine (HF _ (by assumption)).mono ?_; rintro e w' ⟨rfl, hb⟩)
      | (go_at_call 111; refine (HT _ (by assumption)).mono ?_; rintro e w' ⟨rfl, hb⟩)
      | (go_at_call 70; refine (HH _ (by assumption)).mono ?_; rintro e w' ⟨rfl, hb⟩))
    go_ret
    refine ⟨zb0 (zj7 ?_), by assumption⟩
    rw [HI.out]
    have h0 := H0.out
    simp
    try omega
theorem is_1 (op : Int) (h : 1 ≤ op ∧ op ≤ 75) (hk : kdV op = 1) (hs : 1 < srt op) (hs2 : srt op < 7) (hn : op ≠ 3) (hz : shV op = 0) : IsAt op := by
  intro v w v0 v1
  have HB : BW w w := Below.refl _ _
  have HS := i_s op h w
  have HO := i_o op h w
  have HF := i_f op h w
  have HT := i_t op h w
  have HH := i_h op h w
  have HI : Hid (Isw v op ↔ v % 128 = ocV op ∧ v / 4096 % 8 = f3V op) := by
    show _ ↔ _
    unfold Isw
    rw [hk]
    simp
  rw [hz] at HH
  have c3 : (op == 3) = false := by simpa using hn
  generalize ocV op = oc at *
  generalize f3V op = f3 at *
  generalize srt op = s at *
  have c1 : (s == 1) = false := by simp; omega
  have c9 : (s == 9) = false := by simp; omega
  have c8 : (s == 8) = false := by simp; omega
  have c7 : (s == 7) = false := by simp; omega
  have c10 : (s == 10) = false := by simp; omega
  clear hk h hz hn
  generalize turB op = tb at *
  cases tb <;>
  rcases zj5 (v % 128) oc with ⟨H0, b0⟩ | ⟨H0, b0⟩ <;>
  rcases zj5 (v / 4096 % 8) f3 with ⟨H1, b1⟩ | ⟨H1, b1⟩
  all_goals
    go_enter Tryz.func64, Tryz.ntmps64
    go_wp2_with (first
      | (go_at_call 23; refine (HS _ (by assumption)).mono ?_; rintro e w' ⟨rfl, hb⟩)
      | (go_at_call 109; refine (HO _ (by assumption)).mono ?_; rintro e w' ⟨rfl, hb⟩)
      | (go_at_call 110; refine (HF _ (by assumption)).mono ?_; rintro e w' ⟨rfl, hb⟩)
      | (go_at_call 111; refine (HT _ (by assumption)).mono ?_; rintro e w' ⟨rfl, hb⟩)
      | (go_at_call 70; refine (HH _ (by assumption)).mono ?_; rintro e w' ⟨rfl, hb⟩))
    go_ret
    refine ⟨zb0 (zj7 ?_), by assumption⟩
    rw [HI.out]
    have h0 := H0.out
    have h1 := H1.out
    simp
    try omega
theorem is_2at (op : Int) (h : 1 ≤ op ∧ op ≤ 75) (hk : kdV op = 2) (hs : srt op = 7) (hn : op ≠ 3) (ht : turB op = true) (ha : agV op = 32) : IsAt op := by
  intro v w v0 v1
  have HB : BW w w := Below.refl _ _
  have HS := i_s op h w
  have HO := i_o op h w
  have HF := i_f op h w
  have HT := i_t op h w
  have HH := i_h op h w
  have HI : Hid (Isw v op ↔ v % 128 = ocV op ∧ v / 4096 % 8 = f3V op ∧ v / 33554432 = agV op) := by
    show _ ↔ _
    unfold Isw
    rw [hk]
    simp
  rw [hs] at HS
  rw [ht] at HT
  clear HH
  rw [ha] at HI
  have c3 : (op == 3) = false := by simpa using hn
  generalize ocV op = oc at *
  generalize f3V op = f3 at *
  clear hk h hn hs ht ha
  rcases zj5 (v % 128) oc with ⟨H0, b0⟩ | ⟨H0, b0⟩ <;>
  rcases zj5 (v / 4096 % 8) f3 with ⟨H1, b1⟩ | ⟨H1, b1⟩
  all_goals
    go_enter Tryz.func64, Tryz.ntmps64
    go_wp2_with (first
      | (go_at_call 23; refine (HS _ (by assumption)).mono ?_; rintro e w' ⟨rfl, hb⟩)
      | (go_at_call 109; refine (HO _ (by assumption)).mono ?_; rintro e w' ⟨rfl, hb⟩)
      | (go_at_call 110; refine (HF _ (by assumption)).mono ?_; rintro e w' ⟨rfl, hb⟩)
      | (go_at_call 111; refine (HT _ (by assumption)).mono ?_; rintro e w' ⟨rfl, hb⟩)
      | (go_at_call 70; refine (HH _ (by assumption)).mono ?_; rintro e w' ⟨rfl, hb⟩))
    go_ret
    refine ⟨zb0 (zj7 ?_), by assumption⟩
    rw [HI.out]
    have h0 := H0.out
    have h1 := H1.out
    simp
    try omega
theorem is_2bt (op : Int) (h : 1 ≤ op ∧ op ≤ 75) (hk : kdV op = 2) (hs : srt op = 6) (hn : op ≠ 3) (hz : shV op = 5) (ht : turB op = true) (ha : agV op = 32) : IsAt op := by
  intro v w v0 v1
  have HB : BW w w := Below.refl _ _
  have HS := i_s op h w
  have HO := i_o op h w
  have HF := i_f op h w
  have HT := i_t op h w
  have HH := i_h op h w
  have HI : Hid (Isw v op ↔ v % 128 = ocV op ∧ v / 4096 % 8 = f3V op ∧ v / 33554432 = agV op) := by
    show _ ↔ _
    unfold Isw
    rw [hk]
    simp
  rw [hs] at HS
  rw [ht] at HT
  rw [hz] at HH
  rw [ha] at HI
  have c3 : (op == 3) = false := by simpa using hn
  generalize ocV op = oc at *
  generalize f3V op = f3 at *
  clear hk h hn hs ht ha hz
  rcases zj5 (v % 128) oc with ⟨H0, b0⟩ | ⟨H0, b0⟩ <;>
  rcases zj5 (v / 4096 % 8) f3 with ⟨H1, b1⟩ | ⟨H1, b1⟩
  all_goals
    go_enter Tryz.func64, Tryz.ntmps64
    go_wp2_with (first
      | (go_at_call 23; refine (HS _ (by assumption)).mono ?_; rintro e w' ⟨rfl, hb⟩)
      | (go_at_call 109; refine (HO _ (by assumption)).mono ?_; rintro e w' ⟨rfl, hb⟩)
      | (go_at_call 110; refine (HF _ (by assumption)).mono ?_; rintro e w' ⟨rfl, hb⟩)
      | (go_at_call 111; refine (HT _ (by assumption)).mono ?_; rintro e w' ⟨rfl, hb⟩)
      | (go_at_call 70; refine (HH _ (by assumption)).mono ?_; rintro e w' ⟨rfl, hb⟩))
    go_ret
    refine ⟨zb0 (zj7 ?_), by assumption⟩
    rw [HI.out]
    have h0 := H0.out
    have h1 := H1.out
    simp
    try omega
theorem is_3t (op : Int) (h : 1 ≤ op ∧ op ≤ 75) (hk : kdV op = 3) (hs : srt op = 6) (hn : op ≠ 3) (hz : shV op = 6) (ht : turB op = true) (ha : agV op = 16) : IsAt op := by
  intro v w v0 v1
  have HB : BW w w := Below.refl _ _
  have HS := i_s op h w
  have HO := i_o op h w
  have HF := i_f op h w
  have HT := i_t op h w
  have HH := i_h op h w
  have HI : Hid (Isw v op ↔ v % 128 = ocV op ∧ v / 4096 % 8 = f3V op ∧ v / 33554432 / 2 = agV op) := by
    show _ ↔ _
    unfold Isw
    rw [hk]
    simp
  rw [hs] at HS
  rw [ht] at HT
  rw [hz] at HH
  rw [ha] at HI
  have c3 : (op == 3) = false := by simpa using hn
  generalize ocV op = oc at *
  generalize f3V op = f3 at *
  clear hk h hn hs ht ha hz
  rcases zj5 (v % 128) oc with ⟨H0, b0⟩ | ⟨H0, b0⟩ <;>
  rcases zj5 (v / 4096 % 8) f3 with ⟨H1, b1⟩ | ⟨H1, b1⟩
  all_goals
    go_enter Tryz.func64, Tryz.ntmps64
    go_wp2_with (first
      | (go_at_call 23; refine (HS _ (by assumption)).mono ?_; rintro e w' ⟨rfl, hb⟩)
      | (go_at_call 109; refine (HO _ (by assumption)).mono ?_; rintro e w' ⟨rfl, hb⟩)
      | (go_at_call 110; refine (HF _ (by assumption)).mono ?_; rintro e w' ⟨rfl, hb⟩)
      | (go_at_call 111; refine (HT _ (by assumption)).mono ?_; rintro e w' ⟨rfl, hb⟩)
      | (go_at_call 70; refine (HH _ (by assumption)).mono ?_; rintro e w' ⟨rfl, hb⟩))
    go_ret
    refine ⟨zb0 (zj7 ?_), by assumption⟩
    rw [HI.out]
    have h0 := H0.out
    have h1 := H1.out
    simp
    try omega
theorem is_2af (op : Int) (h : 1 ≤ op ∧ op ≤ 75) (hk : kdV op = 2) (hs : srt op = 7) (hn : op ≠ 3) (ht : turB op = false) (ha : agV op = 0) : IsAt op := by
  intro v w v0 v1
  have HB : BW w w := Below.refl _ _
  have HS := i_s op h w
  have HO := i_o op h w
  have HF := i_f op h w
  have HT := i_t op h w
  have HH := i_h op h w
  have HI : Hid (Isw v op ↔ v % 128 = ocV op ∧ v / 4096 % 8 = f3V op ∧ v / 33554432 = agV op) := by
    show _ ↔ _
    unfold Isw
    rw [hk]
    simp
  rw [hs] at HS
  rw [ht] at HT
  clear HH
  rw [ha] at HI
  have c3 : (op == 3) = false := by simpa using hn
  generalize ocV op = oc at *
  generalize f3V op = f3 at *
  clear hk h hn hs ht ha
  rcases zj5 (v % 128) oc with ⟨H0, b0⟩ | ⟨H0, b0⟩ <;>
  rcases zj5 (v / 4096 % 8) f3 with ⟨H1, b1⟩ | ⟨H1, b1⟩
  all_goals
    go_enter Tryz.func64, Tryz.ntmps64
    go_wp2_with (first
      | (go_at_call 23; refine (HS _ (by assumption)).mono ?_; rintro e w' ⟨rfl, hb⟩)
      | (go_at_call 109; refine (HO _ (by assumption)).mono ?_; rintro e w' ⟨rfl, hb⟩)
      | (go_at_call 110; refine (HF _ (by assumption)).mono ?_; rintro e w' ⟨rfl, hb⟩)
      | (go_at_call 111; refine (HT _ (by assumption)).mono ?_; rintro e w' ⟨rfl, hb⟩)
      | (go_at_call 70; refine (HH _ (by assumption)).mono ?_; rintro e w' ⟨rfl, hb⟩))
    go_ret
    refine ⟨zb0 (zj7 ?_), by assumption⟩
    rw [HI.out]
    have h0 := H0.out
    have h1 := H1.out
    simp
    try omega
theorem is_2bf (op : Int) (h : 1 ≤ op ∧ op ≤ 75) (hk : kdV op = 2) (hs : srt op = 6) (hn : op ≠ 3) (hz : shV op = 5) (ht : turB op = false) (ha : agV op = 0) : IsAt op := by
  intro v w v0 v1
  have HB : BW w w := Below.refl _ _
  have HS := i_s op h w
  have HO := i_o op h w
  have HF := i_f op h w
  have HT := i_t op h w
  have HH := i_h op h w
  have HI : Hid (Isw v op ↔ v % 128 = ocV op ∧ v / 4096 % 8 = f3V op ∧ v / 33554432 = agV op) := by
    show _ ↔ _
    unfold Isw
    rw [hk]
    simp
  rw [hs] at HS
  rw [ht] at HT
  rw [hz] at HH
  rw [ha] at HI
  have c3 : (op == 3) = false := by simpa using hn
  generalize ocV op = oc at *
  generalize f3V op = f3 at *
  clear hk h hn hs ht ha hz
  rcases zj5 (v % 128) oc with ⟨H0, b0⟩ | ⟨H0, b0⟩ <;>
  rcases zj5 (v / 4096 % 8) f3 with ⟨H1, b1⟩ | ⟨H1, b1⟩
  all_goals
    go_enter Tryz.func64, Tryz.ntmps64
    go_wp2_with (first
      | (go_at_call 23; refine (HS _ (by assumption)).mono ?_; rintro e w' ⟨rfl, hb⟩)
      | (go_at_call 109; refine (HO _ (by assumption)).mono ?_; rintro e w' ⟨rfl, hb⟩)
      | (go_at_call 110; refine (HF _ (by assumption)).mono ?_; rintro e w' ⟨rfl, hb⟩)
      | (go_at_call 111; refine (HT _ (by assumption)).mono ?_; rintro e w' ⟨rfl, hb⟩)
      | (go_at_call 70; refine (HH _ (by assumption)).mono ?_; rintro e w' ⟨rfl, hb⟩))
    go_ret
    refine ⟨zb0 (zj7 ?_), by assumption⟩
    rw [HI.out]
    have h0 := H0.out
    have h1 := H1.out
    simp
    try omega
theorem is_3f (op : Int) (h : 1 ≤ op ∧ op ≤ 75) (hk : kdV op = 3) (hs : srt op = 6) (hn : op ≠ 3) (hz : shV op = 6) (ht : turB op = false) (ha : agV op = 0) : IsAt op := by
  intro v w v0 v1
  have HB : BW w w := Below.refl _ _
  have HS := i_s op h w
  have HO := i_o op h w
  have HF := i_f op h w
  have HT := i_t op h w
  have HH := i_h op h w
  have HI : Hid (Isw v op ↔ v % 128 = ocV op ∧ v / 4096 % 8 = f3V op ∧ v / 33554432 / 2 = agV op) := by
    show _ ↔ _
    unfold Isw
    rw [hk]
    simp
  rw [hs] at HS
  rw [ht] at HT
  rw [hz] at HH
  rw [ha] at HI
  have c3 : (op == 3) = false := by simpa using hn
  generalize ocV op = oc at *
  generalize f3V op = f3 at *
  clear hk h hn hs ht ha hz
  rcases zj5 (v % 128) oc with ⟨H0, b0⟩ | ⟨H0, b0⟩ <;>
  rcases zj5 (v / 4096 % 8) f3 with ⟨H1, b1⟩ | ⟨H1, b1⟩
  all_goals
    go_enter Tryz.func64, Tryz.ntmps64
    go_wp2_with (first
      | (go_at_call 23; refine (HS _ (by assumption)).mono ?_; rintro e w' ⟨rfl, hb⟩)
      | (go_at_call 109; refine (HO _ (by assumption)).mono ?_; rintro e w' ⟨rfl, hb⟩)
      | (go_at_call 110; refine (HF _ (by assumption)).mono ?_; rintro e w' ⟨rfl, hb⟩)
      | (go_at_call 111; refine (HT _ (by assumption)).mono ?_; rintro e w' ⟨rfl, hb⟩)
      | (go_at_call 70; refine (HH _ (by assumption)).mono ?_; rintro e w' ⟨rfl, hb⟩))
    go_ret
    refine ⟨zb0 (zj7 ?_), by assumption⟩
    rw [HI.out]
    have h0 := H0.out
    have h1 := H1.out
    simp
    try omega
theorem is_4 (op : Int) (h : 1 ≤ op ∧ op ≤ 75) (hk : kdV op = 4) (hs : srt op = 10) (hn : op ≠ 3) (hz : shV op = 0) : IsAt op := by
  intro v w v0 v1
  have HB : BW w w := Below.refl _ _
  have HS := i_s op h w
  have HO := i_o op h w
  have HF := i_f op h w
  have HT := i_t op h w
  have HH := i_h op h w
  have HI : Hid (Isw v op ↔ v % 128 = ocV op ∧ v / 4096 % 8 = f3V op ∧ v / 134217728 = 2 ∧ v / 1048576 % 32 = 0) := by
    show _ ↔ _
    unfold Isw
    rw [hk]
    simp
  rw [hs] at HS
  rw [hz] at HH
  have c3 : (op == 3) = false := by simpa using hn
  generalize ocV op = oc at *
  generalize f3V op = f3 at *
  clear hk h hn hs hz
  generalize turB op = tb at *
  cases tb <;>
  rcases zj5 (v % 128) oc with ⟨H0, b0⟩ | ⟨H0, b0⟩ <;>
  rcases zj5 (v / 4096 % 8) f3 with ⟨H1, b1⟩ | ⟨H1, b1⟩ <;>
  rcases zy4 (v / 134217728) 2 with ⟨H2, b2⟩ | ⟨H2, b2⟩ <;>
  rcases zy4 (v / 1048576 % 32) 0 with ⟨H3, b3⟩ | ⟨H3, b3⟩
  all_goals
    go_enter Tryz.func64, Tryz.ntmps64
    go_wp2_with (first
      | (go_at_call 23; refine (HS _ (by assumption)).mono ?_; rintro e w' ⟨rfl, hb⟩)
      | (go_at_call 109; refine (HO _ (by assumption)).mono ?_; rintro e w' ⟨rfl, hb⟩)
      | (go_at_call 110; refine (HF _ (by assumption)).mono ?_; rintro e w' ⟨rfl, hb⟩)
      | (go_at_call 111; refine (HT _ (by assumption)).mono ?_; rintro e w' ⟨rfl, hb⟩)
      | (go_at_call 70; refine (HH _ (by assumption)).mono ?_; rintro e w' ⟨rfl, hb⟩))
    go_ret
    refine ⟨zb0 (zj7 ?_), by assumption⟩
    rw [HI.out]
    have h0 := H0.out
    have h1 := H1.out
    have h2 := H2.out
    have h3 := H3.out
    simp
    try omega
theorem is_5 (op : Int) (h : 1 ≤ op ∧ op ≤ 75) (hk : kdV op = 5) (hs : 10 < srt op) (hn : op ≠ 3) (hz : shV op = 0) (h54 : 54 ≤ op) : IsAt op := by
  intro v w v0 v1
  have HB : BW w w := Below.refl _ _
  have HS := i_s op h w
  have HO := i_o op h w
  have HF := i_f op h w
  have HT := i_t op h w
  have HH := i_h op h w
  have HV := i_v op w ⟨h54, h.2⟩
  have HI : Hid (Isw v op ↔ v % 128 = ocV op ∧ v / 4096 % 8 = f3V op ∧ v / 134217728 = agV op) := by
    show _ ↔ _
    unfold Isw
    rw [hk]
    simp
  rw [hz] at HH
  have c3 : (op == 3) = false := by simpa using hn
  generalize ocV op = oc at *
  generalize f3V op = f3 at *
  generalize agV op = ag at *
  generalize srt op = s at *
  have c1 : (s == 1) = false := by simp; omega
  have c9 : (s == 9) = false := by simp; omega
  have c8 : (s == 8) = false := by simp; omega
  have c7 : (s == 7) = false := by simp; omega
  have c10 : (s == 10) = false := by simp; omega
  clear hk h hz hn h54
  generalize turB op = tb at *
  cases tb <;>
  rcases zj5 (v % 128) oc with ⟨H0, b0⟩ | ⟨H0, b0⟩ <;>
  rcases zj5 (v / 4096 % 8) f3 with ⟨H1, b1⟩ | ⟨H1, b1⟩ <;>
  rcases zy4 (v / 134217728) ag with ⟨H2, b2⟩ | ⟨H2, b2⟩
  all_goals
    go_enter Tryz.func64, Tryz.ntmps64
    go_wp2_with (first
      | (go_at_call 23; refine (HS _ (by assumption)).mono ?_; rintro e w' ⟨rfl, hb⟩)
      | (go_at_call 109; refine (HO _ (by assumption)).mono ?_; rintro e w' ⟨rfl, hb⟩)
      | (go_at_call 110; refine (HF _ (by assumption)).mono ?_; rintro e w' ⟨rfl, hb⟩)
      | (go_at_call 111; refine (HT _ (by assumption)).mono ?_; rintro e w' ⟨rfl, hb⟩)
      | (go_at_call 70; refine (HH _ (by assumption)).mono ?_; rintro e w' ⟨rfl, hb⟩)
      | (go_at_call 112; refine (HV _ (by assumption)).mono ?_; rintro e w' ⟨rfl, hb⟩))
    go_ret
    refine ⟨zb0 (zj7 ?_), by assumption⟩
    rw [HI.out]
    have h0 := H0.out
    have h1 := H1.out
    have h2 := H2.out
    simp
    try omega
set_option maxRecDepth 100000 in
theorem is_50 : IsAt 50 := by
  intro v w v0 v1
  have HB : BW w w := Below.refl _ _
  have HS := i_s 50 (by decide) w
  have HO := i_o 50 (by decide) w
  have HF := i_f 50 (by decide) w
  have HT := i_t 50 (by decide) w
  have HH := i_h 50 (by decide) w
  rw [show srt 50 = 8 by decide] at HS
  rw [show ocV 50 = 15 by decide] at HO
  clear HF HT HH
  have HI : Hid (Isw v 50 ↔ v % 128 = 15 ∧ v / 4096 % 8 = 0 ∧ v / 1048576 ≠ 2099) := by
    show _ ↔ _
    unfold Isw
    rw [show ocV 50 = 15 by decide, show kdV 50 = 6 by decide]
    simp
    try omega
  rcases zj5 (v % 128) 15 with ⟨H0, b0⟩ | ⟨H0, b0⟩ <;>
  rcases zy4 (v / 4096 % 8) 0 with ⟨H1, b1⟩ | ⟨H1, b1⟩ <;>
  rcases zy4 (v / 1048576) 2099 with ⟨H2, b2⟩ | ⟨H2, b2⟩
  all_goals
    go_enter Tryz.func64, Tryz.ntmps64
    go_wp2_with (first
      | (go_at_call 23; refine (HS _ (by assumption)).mono ?_; rintro e w' ⟨rfl, hb⟩)
      | (go_at_call 109; refine (HO _ (by assumption)).mono ?_; rintro e w' ⟨rfl, hb⟩)
      | (go_at_call 110; refine (HF _ (by assumption)).mono ?_; rintro e w' ⟨rfl, hb⟩)
      | (go_at_call 111; refine (HT _ (by assumption)).mono ?_; rintro e w' ⟨rfl, hb⟩)
      | (go_at_call 70; refine (HH _ (by assumption)).mono ?_; rintro e w' ⟨rfl, hb⟩))
    go_ret
    refine ⟨zb0 (zj7 ?_), by assumption⟩
    rw [HI.out]
    have h0 := H0.out
    have h1 := H1.out
    have h2 := H2.out
    simp
    try omega
set_option maxRecDepth 100000 in
theorem is_51 : IsAt 51 := by
  intro v w v0 v1
  have HB : BW w w := Below.refl _ _
  have HS := i_s 51 (by decide) w
  have HO := i_o 51 (by decide) w
  have HF := i_f 51 (by decide) w
  have HT := i_t 51 (by decide) w
  have HH := i_h 51 (by decide) w
  rw [show srt 51 = 8 by decide] at HS
  rw [show ocV 51 = 15 by decide] at HO
  clear HF HT HH
  have HI : Hid (Isw v 51 ↔ v % 128 = 15 ∧ v / 4096 % 8 = 0 ∧ v / 1048576 = 2099) := by
    show _ ↔ _
    unfold Isw
    rw [show ocV 51 = 15 by decide, show kdV 51 = 7 by decide]
    simp
    try omega
  rcases zj5 (v % 128) 15 with ⟨H0, b0⟩ | ⟨H0, b0⟩ <;>
  rcases zy4 (v / 4096 % 8) 0 with ⟨H1, b1⟩ | ⟨H1, b1⟩ <;>
  rcases zy4 (v / 1048576) 2099 with ⟨H2, b2⟩ | ⟨H2, b2⟩
  all_goals
    go_enter Tryz.func64, Tryz.ntmps64
    go_wp2_with (first
      | (go_at_call 23; refine (HS _ (by assumption)).mono ?_; rintro e w' ⟨rfl, hb⟩)
      | (go_at_call 109; refine (HO _ (by assumption)).mono ?_; rintro e w' ⟨rfl, hb⟩)
      | (go_at_call 110; refine (HF _ (by assumption)).mono ?_; rintro e w' ⟨rfl, hb⟩)
      | (go_at_call 111; refine (HT _ (by assumption)).mono ?_; rintro e w' ⟨rfl, hb⟩)
      | (go_at_call 70; refine (HH _ (by assumption)).mono ?_; rintro e w' ⟨rfl, hb⟩))
    go_ret
    refine ⟨zb0 (zj7 ?_), by assumption⟩
    rw [HI.out]
    have h0 := H0.out
    have h1 := H1.out
    have h2 := H2.out
    simp
    try omega
set_option maxRecDepth 100000 in
theorem is_52 : IsAt 52 := by
  intro v w v0 v1
  have HB : BW w w := Below.refl _ _
  have HS := i_s 52 (by decide) w
  have HO := i_o 52 (by decide) w
  have HF := i_f 52 (by decide) w
  have HT := i_t 52 (by decide) w
  have HH := i_h 52 (by decide) w
  rw [show srt 52 = 9 by decide] at HS
  rw [show ocV 52 = 115 by decide] at HO
  clear HF HT HH
  have HI : Hid (Isw v 52 ↔ v % 128 = 115 ∧ v = 115) := by
    show _ ↔ _
    unfold Isw
    rw [show ocV 52 = 115 by decide, show kdV 52 = 8 by decide]
    simp
    try omega
  rcases zj5 (v % 128) 115 with ⟨H0, b0⟩ | ⟨H0, b0⟩ <;>
  rcases zy4 (v) 115 with ⟨H1, b1⟩ | ⟨H1, b1⟩ <;>
  rcases zy4 (v) 1048691 with ⟨H2, b2⟩ | ⟨H2, b2⟩
  all_goals
    try (exfalso; have h0 := H0.out; have h1 := H1.out; have h2 := H2.out; omega)
  all_goals
    go_enter Tryz.func64, Tryz.ntmps64
    go_wp2_with (first
      | (go_at_call 23; refine (HS _ (by assumption)).mono ?_; rintro e w' ⟨rfl, hb⟩)
      | (go_at_call 109; refine (HO _ (by assumption)).mono ?_; rintro e w' ⟨rfl, hb⟩)
      | (go_at_call 110; refine (HF _ (by assumption)).mono ?_; rintro e w' ⟨rfl, hb⟩)
      | (go_at_call 111; refine (HT _ (by assumption)).mono ?_; rintro e w' ⟨rfl, hb⟩)
      | (go_at_call 70; refine (HH _ (by assumption)).mono ?_; rintro e w' ⟨rfl, hb⟩))
    go_ret
    refine ⟨zb0 (zj7 ?_), by assumption⟩
    rw [HI.out]
    have h0 := H0.out
    have h1 := H1.out
    have h2 := H2.out
    simp
    try omega
set_option maxRecDepth 100000 in
theorem is_53 : IsAt 53 := by
  intro v w v0 v1
  have HB : BW w w := Below.refl _ _
  have HS := i_s 53 (by decide) w
  have HO := i_o 53 (by decide) w
  have HF := i_f 53 (by decide) w
  have HT := i_t 53 (by decide) w
  have HH := i_h 53 (by decide) w
  rw [show srt 53 = 9 by decide] at HS
  rw [show ocV 53 = 115 by decide] at HO
  clear HF HT HH
  have HI : Hid (Isw v 53 ↔ v % 128 = 115 ∧ v = 1048691) := by
    show _ ↔ _
    unfold Isw
    rw [show ocV 53 = 115 by decide, show kdV 53 = 9 by decide]
    simp
    try omega
  rcases zj5 (v % 128) 115 with ⟨H0, b0⟩ | ⟨H0, b0⟩ <;>
  rcases zy4 (v) 115 with ⟨H1, b1⟩ | ⟨H1, b1⟩ <;>
  rcases zy4 (v) 1048691 with ⟨H2, b2⟩ | ⟨H2, b2⟩
  all_goals
    try (exfalso; have h0 := H0.out; have h1 := H1.out; have h2 := H2.out; omega)
  all_goals
    go_enter Tryz.func64, Tryz.ntmps64
    go_wp2_with (first
      | (go_at_call 23; refine (HS _ (by assumption)).mono ?_; rintro e w' ⟨rfl, hb⟩)
      | (go_at_call 109; refine (HO _ (by assumption)).mono ?_; rintro e w' ⟨rfl, hb⟩)
      | (go_at_call 110; refine (HF _ (by assumption)).mono ?_; rintro e w' ⟨rfl, hb⟩)
      | (go_at_call 111; refine (HT _ (by assumption)).mono ?_; rintro e w' ⟨rfl, hb⟩)
      | (go_at_call 70; refine (HH _ (by assumption)).mono ?_; rintro e w' ⟨rfl, hb⟩))
    go_ret
    refine ⟨zb0 (zj7 ?_), by assumption⟩
    rw [HI.out]
    have h0 := H0.out
    have h1 := H1.out
    have h2 := H2.out
    simp
    try omega
theorem is_any (op : Int) (h : 1 ≤ op ∧ op ≤ 75) : IsAt op := by
  have hk := kf_all ⟨op.toNat - 1, by omega⟩
  simp only [show ((op.toNat - 1 : Nat) : Int) + 1 = op by omega] at hk
  rcases hk with ⟨a, b⟩ | ⟨a, b, c⟩ | ⟨a, b, c, d, e⟩ | ⟨a, b, c, ⟨d, e⟩ | ⟨d, e⟩⟩ | ⟨a, b, c, f, ⟨d, e⟩ | ⟨d, e⟩⟩ | ⟨a, b, c, f, ⟨d, e⟩ | ⟨d, e⟩⟩ | ⟨a, b, c, d, _⟩ | ⟨a, b, c, d, e⟩ | rfl | rfl | rfl | rfl
  · exact is_0a op h a b
  · exact is_0b op h a b c
  · exact is_1 op h a b c d e
  · exact is_2at op h a b c d e
  · exact is_2af op h a b c d e
  · exact is_2bt op h a b c f d e
  · exact is_2bf op h a b c f d e
  · exact is_3t op h a b c f d e
  · exact is_3f op h a b c f d e
  · exact is_4 op h a b c d
  · exact is_5 op h a b c d e
  · exact is_50
  · exact is_51
  · exact is_52
  · exact is_53
end Go.Proofs.YtmamblgpekafbaaGreatDoor
namespace Go.Proofs.YtmamblgpekafbaaGreatDoor
open Go.RowKit
def Row (W : World) (g : Nat) (w : World) (xs : List Value) : Prop := w.ownsRow W.heap.size 130 1 (.slice (some ⟨g, 0, none⟩) 32 32) 32 xs
theorem Row.put {W w : World} {g k : Nat} {f x : Int} (h : Row W g w (plcs f k ++ zer (32 - k))) (hk : k < 32) (hx : plc f k = x) : Row W g (w.setCell ⟨g, k, none⟩ (.int .i64 x)) (plcs f (k + 1) ++ zer (32 - (k + 1))) := by
  have := (World.ownsRow.stored h k (.int .i64 x)).1
  rw [← hx, plcs_set f k hk] at this
  rw [← hx]; exact this
theorem Row.other {W w : World} {g g' k : Nat} {x : Value} {xs ys : List Value} (h : Row W g w xs) (h' : Row W g' w ys) (hne : g' ≠ g) : Row W g' (w.setCell ⟨g, k, none⟩ x) ys :=
  World.ownsRow.kept h' (World.ownsRow.stored h k x).2 (.inr (by simpa [Value.ownBlock] using hne))
theorem Row.store {P : Program} {W w : World} {g : Nat} {xs : List Value} (h : Row W g w xs) (ys : List Value) (hy : ys.length = 32) (h1 : ∀ v ∈ ys, v.oneCell' = true) :
    ∃ w', (storeCells ⟨g, 0, none⟩ ys 0).run P w = .ok () w' ∧ Row W g w' ys ∧ w.grownBy w' (some g) := by
  rcases h with ⟨hl, ⟨h', _⟩ | ⟨g', cap, cur, h', hb, hg, hnc, hcm, hcs, _⟩⟩
  · cases h'
  · cases h'
    have hc : cur.size = 32 := by omega
    have hr := run_storeCells_at (P := P) g 0 130 ys 0 cur w hg (by omega) h1
    have he : (cur.toList.take (0 + 0) ++ ys ++ cur.toList.drop (0 + 0 + ys.length)) = ys := by
      rw [List.take_zero, List.nil_append, List.drop_of_length_le (by rw [Array.length_toList]; omega), List.append_nil]
    rw [he] at hr
    refine ⟨_, hr, ⟨by omega, .inr ⟨g, 32, ys.toArray, rfl, hb, setRow_heap w g cur ys.toArray _ _ hg, Nat.le_refl _, hcm, by simpa using hy, by rw [List.toList_toArray, List.take_of_length_le (by omega)]⟩⟩, ?_⟩
    exact ⟨rfl, rfl, rfl, by simp, fun k _ hk => setRow_other w g k _ (fun e => hk (by rw [e]))⟩
theorem Row.start (W w : World) (xs : List Value) (hb : W.heap.size ≤ w.heap.size) (hx : xs.length = 32) : Row W w.heap.size (w.alloc (.cells xs.toArray 130)) xs :=
  ⟨by omega, .inr ⟨w.heap.size, 32, xs.toArray, rfl, hb, heap_alloc_new w _, Nat.le_refl _, by unfold maxLen; omega, by simpa using hx, by rw [List.toList_toArray, List.take_of_length_le (by omega)]⟩⟩
theorem Row.alloc {W w : World} {g : Nat} {xs : List Value} (h : Row W g w xs) (o : Obj) : Row W g (w.alloc o) xs := World.ownsRow.alloc h o
theorem Row.var {P : Program} {W w : World} {g : Nat} {xs : List Value} (h : Row W g w xs) (hu : P.underlying 130 = some (.array 32 3)) (hi : (P.info? 130).map (·.size) = some 32) : (loadVar 130 ⟨g, 0, none⟩).run P w = .ok (.agg xs.toArray) w := by
  rcases h with ⟨hl, ⟨h', _⟩ | ⟨g', cap, cur, h', hb, hg, hnc, hcm, hcs, ht⟩⟩
  · cases h'
  · cases h'
    have hc : cur.size = 32 := by omega
    have e : xs.toArray = cur := by
      rw [← ht, List.take_of_length_le (by rw [Array.length_toList]; omega)]
    rw [e]
    exact run_loadVar_row w g _ _ cur (0, 0) _ hg hu rfl (by rw [hi, hc])
theorem zY6 {P : Program} {W w : World} {ops : Array Oper} {rest : List Oper} {o : Oper} {a : Act} {Q : Exit → Act → World → Prop} (hgd : o.guard = none) (x : Operand) (ho : o.op = .load 130 x) (g : Nat) (hx : a.eval x = .pointer (some ⟨g, 0, none⟩))
    {xs : List Value} (hr : Row W g w xs) (hu : P.underlying 130 = some (.array 32 3)) (hi : (P.info? 130).map (·.size) = some 32) (h : wpList P ops Q rest (a.put o.dst (.agg xs.toArray)) w) : wpList P ops Q (o :: rest) a w :=
  wpList_plain hgd fun K hK => by
    unfold Oper.wp execOp
    simp only [ho, hx, Instr.loadAt, Instr.sureAddr, Sem.run_bind, Sem.run_pure, Result.andThen_ok, Row.var hr hu hi]
    exact hK _ _ h
theorem zY2 {P : Program} {fn : Func} {t : Tmp} {ty : TypeId} (h : fn.results = #[.cell t ty]) {tmps : Array Value} {g : Nat} {v : Value} {w : World} (ht : tmps.getD t undef = .pointer (some ⟨g, 0, none⟩)) (hl : (loadVar ty ⟨g, 0, none⟩).run P w = .ok v w) :
    (results fn tmps).run P w = .ok v w := by
  rw [Array.getD_eq_getD_getElem?] at ht
  simp [results, h, ht, asAddr, hl]
theorem plcs_one (f : Int) (k : Nat) : ∀ v ∈ plcs f k, v.oneCell' = true := by
  intro v hv
  obtain ⟨i, _, rfl⟩ := List.mem_map.1 hv
  rfl
set_option maxRecDepth 100000 in
theorem zW0 (f : Int) (w : World) (hf : f = 1 ∨ f = 2 ∨ f = 3 ∨ f = 4 ∨ f = 5 ∨ ¬ (1 ≤ f ∧ f ≤ 5)) :
    Calls Tryz.prog 113 #[.int .i64 f] w fun e w' => e = .returned (.agg (plcV f)) ∧ Below w.heap.size w w' := by
  rcases hf with hf | hf | hf | hf | hf | hf
  all_goals
      first | (have b1 : (f == 1) = true := by simp; omega) | (have b1 : (f == 1) = false := by simp; omega)
      first | (have b2 : (f == 2) = true := by simp; omega) | (have b2 : (f == 2) = false := by simp; omega)
      first | (have b3 : (f == 3) = true := by simp; omega) | (have b3 : (f == 3) = false := by simp; omega)
      first | (have b4 : (f == 4) = true := by simp; omega) | (have b4 : (f == 4) = false := by simp; omega)
      first | (have b5 : (f == 5) = true := by simp; omega) | (have b5 : (f == 5) = false := by simp; omega)
      have HF := Lib.hid hf
      clear hf
      go_enter Tryz.func113, Tryz.ntmps113
      go_wp2_with fail
      go_loopg [4] 32 (fun gg v4 wr => Below w.heap.size w wr ∧ ∃ k : Nat, v4 = .int .i64 k ∧ k + gg = 32 ∧ Hid (Row w (w.heap.size + 1) wr (plcs f k ++ zer (32 - k))) ∧ Hid (Row w w.heap.size wr (zer 32)))
      case atStart =>
        have h1 := Row.start w w (zer 32) (Nat.le_refl _) (by simp [zer])
        have h2 := Row.start w (w.alloc (.cells (zer 32).toArray 130)) (zer 32) (by simp) (by simp [zer])
        have e : (w.alloc (.cells (zer 32).toArray 130)).heap.size = w.heap.size + 1 := by simp
        rw [e] at h2
        exact ⟨((Below.refl _ _).alloc (Nat.le_refl _) _).alloc (by simp) _, 0, rfl, by omega, h2, h1.alloc _⟩
      case round =>
        obtain ⟨hb, k, rfl, hk, HO, HZ⟩ := hrel
        by_cases hk32 : k < 32
        · have hk32' : (k : Int) < 32 := by omega
          have hcell := World.ownsRow.cellAt HO.out k (by omega)
          have hfz := World.ownsRow.frozenAt HO.out k
          obtain ⟨u, hu⟩ : ∃ u, (plcs f k ++ zer (32 - k))[k]? = some u := ⟨_, List.getElem?_eq_getElem (by simp [plcs, zer]; omega)⟩
          rw [hu] at hcell
          clear hu
          have hkk : k = 7 ∨ k = 20 ∨ k = 31 ∨ (k ≠ 7 ∧ k ≠ 20 ∧ k ≠ 31) := by omega
          rcases hkk with hkk | hkk | hkk | hkk
          all_goals
            first | (have q7 : ((k : Int) == 7) = true := by simp; omega) | (have q7 : ((k : Int) == 7) = false := by simp; omega)
            first | (have q20 : ((k : Int) == 20) = true := by simp; omega) | (have q20 : ((k : Int) == 20) = false := by simp; omega)
            first | (have q31 : ((k : Int) == 31) = true := by simp; omega) | (have q31 : ((k : Int) == 31) = false := by simp; omega)
            have HKK := Lib.hid hkk
            clear hkk
            go_wp2_with fail
            all_goals go_roundg (32 - (k + 1))
            all_goals try (case measure => omega)
            all_goals
              refine ⟨hb.setCell (by simp) _, k + 1, by go_num, by omega, (show Hid _ from Row.put HO.out hk32 ?_), (show Hid _ from Row.other HO.out HZ.out (by omega))⟩
            all_goals
              have hf := HF.out
              have hkk := HKK.out
              first
                | (have hp := zK4 hf k; omega)
                | (have hp := zr7 hf k; omega)
                | (have hp := zm6 hf k; omega)
                | (have hp := zH0 hf k; omega)
                | (have hp := zp5 hf k; omega)
                | exact Zb1 hf k
        · obtain rfl : k = 32 := by omega
          have hO : Row w (w.heap.size + 1) wr (plcs f 32) := by have := HO.out; rwa [show plcs f 32 ++ zer (32 - 32) = plcs f 32 by simp [zer]] at this
          obtain ⟨w2, hs, hr2, hgr⟩ := Row.store (P := Tryz.prog) HZ.out (plcs f 32) (zF0 f 32) (plcs_one f 32)
          go_upto_region 37 with (fail)
          go_wp2_with (with_reducible refine zY6 (o := ⟨some 82, _, _, _, _, _⟩) rfl (.tmp 3) rfl (w.heap.size + 1) rfl hO Tryz.underlying130 (by kernel_rfl) ?_)
          exact bodyPost_ret (zY2 rfl rfl (Row.var hr2 Tryz.underlying130 (by kernel_rfl))) rfl ⟨rfl, hb.grown hgr hb.size (fun q hq => by cases hq; exact Nat.le_refl _)⟩
theorem zZ1 (f : Int) (w : World) :
    Calls Tryz.prog 113 #[.int .i64 f] w fun e w' => e = .returned (.agg (plcV f)) ∧ Below w.heap.size w w' := zW0 f w (by omega)
end Go.Proofs.YtmamblgpekafbaaGreatDoor
namespace Go.Proofs.YtmamblgpekafbaaGreatDoor
open Go.RowKit
def At (f : Int) (g : Nat) (w : World) : Prop := ∀ i, i < 32 → w.cell? ⟨g, i, none⟩ = some (.int .i64 (plc f i))
theorem At.new (f : Int) (w : World) (t : TypeId) : At f w.heap.size (w.alloc (.cells (plcV f) t)) := fun i hi => by
  rw [cell_of_row _ _ i (plcV f) t (0, 0) (heap_alloc_last w _)]
  exact plcV_at f hi
set_option maxRecDepth 100000 in
theorem rget_any (f v : Int) (hv0 : 0 ≤ v) (hv1 : v < 4294967296) (w : World) :
    Calls Tryz.prog 69 #[.int .i64 f, .int .u32 v] w fun e w' => e = .returned (.int .i64 (getK f v 32)) ∧ Below w.heap.size w w' := by
  go_enter Tryz.func69, Tryz.ntmps69
  go_wp2_with (first
    | (go_at_call 113; refine (zZ1 _ _).mono ?_; rintro e w1 ⟨rfl, hb1⟩))
  rw [run_storeCells_new (P := Tryz.prog) w1 130 _ (plcV f) (by rw [zK5]; kernel_rfl) (by rw [zK5]; rfl) (plcV_one f)]
  have HA := Lib.hid (At.new f w1 130)
  have HB : Hid (Below w.heap.size w (w1.alloc (.cells (plcV f) 130))) := hb1.alloc hb1.size _
  obtain ⟨g, hg⟩ : ∃ g, w1.heap.size = g := ⟨_, rfl⟩
  rw [hg] at HA ⊢
  generalize w1.alloc (.cells (plcV f) 130) = w2 at *
  clear hg hb1
  go_wp2_with fail
  go_loop [6, 7] (fun v4 v5 => ∃ z j : Int, v5 = .int .i64 j ∧ v4 = .int .i64 z ∧ 0 ≤ j ∧ j ≤ 32 ∧ -68719476736 ≤ z ∧ z ≤ 68719476736 ∧ Hid (z = getK f v j.toNat)) (fun _ v5 => (32 - intOf v5).toNat)
  case atStart => exact ⟨0, 0, rfl, rfl, by omega, by omega, by omega, by omega, (show Hid _ from rfl)⟩
  case round =>
    obtain ⟨z, j, rfl, rfl, j0, j1, z0, z1, HZ⟩ := hrel
    by_cases hj : j < 32
    · have hc := HA.out j.toNat (by omega)
      obtain ⟨p, hp⟩ : ∃ p, plc f j.toNat = p := ⟨_, rfl⟩
      have hpr := zw7 f j.toNat (by omega)
      rw [hp] at hc hpr
      obtain ⟨p0, p1⟩ := hpr
      have hn := zX8 f v (j.toNat + 1) (by omega)
      have h32 : (2 : Int) ^ p.toNat ≤ 2 ^ 31 := p2le (by omega)
      have e31 : (2 : Int) ^ 31 = 2147483648 := by decide
      rw [e31] at h32
      have hpp := zO3 p.toNat
      rw [zn5, hp] at hn
      have HE := Lib.hid (zn5 f v j.toNat)
      rw [hp] at HE
      have HP := Lib.hid hp
      clear hp e31
      rw [← HZ.out] at hn
      by_cases h0 : 0 ≤ p
      · have hd0 : 0 ≤ v / 2 ^ j.toNat := Int.ediv_nonneg hv0 (Int.le_of_lt (zO3 _))
        have hd1 : v / 2 ^ j.toNat < 4294967296 := by have := Int.ediv_le_self (a := v) (2 ^ j.toNat) hv0; omega
        have ha := and1_u32 (v / 2 ^ j.toNat) hd0 hd1
        by_cases hbt : v / 2 ^ j.toNat % 2 = 1
        · rw [if_pos ⟨h0, hbt⟩] at hn HE
          rw [hbt] at ha
          clear hbt
          by_cases h31 : j = 31
          · rw [if_pos (by omega)] at hn HE
            have hb31 : (j == 31) = true := by simp [h31]
            have HJ := Lib.hid h31
            clear h31
            go_wp2
            go_round
            case rel =>
              refine ⟨z - 2 ^ p.toNat, j + 1, rfl, rfl, by omega, by omega, by omega, by omega, ?_⟩
              show _ = _
              rw [show (j + 1).toNat = j.toNat + 1 by omega, HE.out, HZ.out]; rfl
            case measure => simp [intOf]; omega
          · rw [if_neg (by omega)] at hn HE
            have hb31 : (j == 31) = false := by simp [h31]
            clear h31
            go_wp2
            go_round
            case rel =>
              refine ⟨z + 2 ^ p.toNat, j + 1, rfl, rfl, by omega, by omega, by omega, by omega, ?_⟩
              show _ = _
              rw [show (j + 1).toNat = j.toNat + 1 by omega, HE.out, HZ.out]
            case measure => simp [intOf]; omega
        · rw [if_neg (fun h => hbt h.2)] at hn HE
          have hb0 : v / 2 ^ j.toNat % 2 = 0 := by omega
          rw [hb0] at ha
          clear hbt hb0
          go_wp2
          go_round
          case rel =>
            refine ⟨z, j + 1, rfl, rfl, by omega, by omega, by omega, by omega, ?_⟩
            show _ = _
            rw [show (j + 1).toNat = j.toNat + 1 by omega, HE.out, HZ.out, Int.add_zero]
          case measure => simp [intOf]; omega
      · rw [if_neg (fun h => h0 h.1)] at hn HE
        go_wp2
        go_round
        case rel =>
          refine ⟨z, j + 1, rfl, rfl, by omega, by omega, by omega, by omega, ?_⟩
          show _ = _
          rw [show (j + 1).toNat = j.toNat + 1 by omega, HE.out, HZ.out, Int.add_zero]
        case measure => simp [intOf]; omega
    · obtain rfl : j = 32 := by omega
      go_wp2
      go_ret
      exact ⟨za1 HZ.out, HB.out⟩
end Go.Proofs.YtmamblgpekafbaaGreatDoor
namespace Go.Proofs.YtmamblgpekafbaaGreatDoor
open Go.RowKit
def Jn (W0 : World) (i : Ins) (g : Nat) (w : World) : Prop := BW W0 w ∧ Blk (za0 i) 39 g w ∧ W0.heap.size ≤ g
section
variable {W0 w w' : World} {i : Ins} {g : Nat}
theorem Jn.on (h : Jn W0 i g w) (hb : Below w.heap.size w w') : Jn W0 i g w' := ⟨h.1.on hb, h.2.1.on hb, h.2.2⟩
theorem Jn.drew (h : Jn W0 i g w) : Jn W0 i g w.drew := ⟨Below.drew h.1, h.2.1.drew, h.2.2⟩
theorem Jn.st (h : Jn W0 i g w) (k : Nat) (v : Value) (i' : Ins) (e : (za0 i).setIfInBounds k v = za0 i') : Jn W0 i' g (w.setCell ⟨g, k, none⟩ v) :=
  ⟨Below.setCell h.1 h.2.2 v, by have := h.2.1.set k v; rw [e] at this; exact this, h.2.2⟩
theorem Jn.s1 (h : Jn W0 i g w) (x : Int) : Jn W0 { i with rd := x } g (w.setCell ⟨g, 1, none⟩ (.int .i64 x)) := h.st 1 _ _ rfl
theorem Jn.s2 (h : Jn W0 i g w) (x : Int) : Jn W0 { i with rs1 := x } g (w.setCell ⟨g, 2, none⟩ (.int .i64 x)) := h.st 2 _ _ rfl
theorem Jn.s3 (h : Jn W0 i g w) (x : Int) : Jn W0 { i with rs2 := x } g (w.setCell ⟨g, 3, none⟩ (.int .i64 x)) := h.st 3 _ _ rfl
theorem Jn.s4 (h : Jn W0 i g w) (x : Int) : Jn W0 { i with imm := x } g (w.setCell ⟨g, 4, none⟩ (.int .i64 x)) := h.st 4 _ _ rfl
theorem Jn.s5 (h : Jn W0 i g w) (x : Bool) : Jn W0 { i with aq := x } g (w.setCell ⟨g, 5, none⟩ (.bool x)) := h.st 5 _ _ rfl
theorem Jn.s6 (h : Jn W0 i g w) (x : Bool) : Jn W0 { i with rl := x } g (w.setCell ⟨g, 6, none⟩ (.bool x)) := h.st 6 _ _ rfl
theorem Jn.s7 (h : Jn W0 i g w) (x : Int) : Jn W0 { i with pred := x } g (w.setCell ⟨g, 7, none⟩ (.int .i64 x)) := h.st 7 _ _ rfl
theorem Jn.s8 (h : Jn W0 i g w) (x : Int) : Jn W0 { i with succ := x } g (w.setCell ⟨g, 8, none⟩ (.int .i64 x)) := h.st 8 _ _ rfl
theorem zn2 (i : Ins) : ∀ v ∈ (za0 i).toList, v.oneCell' = true := by
  intro v hv
  simp [za0] at hv
  rcases hv with rfl | rfl | rfl | rfl | rfl | rfl | rfl | rfl | rfl <;> rfl
theorem Jn.out {P : Program} {W : World} {z : Ins} (h : Jn W0 i g w) (hr : Blk (za0 z) 39 W.heap.size W0) (hb : Below W.heap.size W W0) :
    ∃ w', (storeCells ⟨W.heap.size, 0, none⟩ (za0 i).toList 0).run P w = .ok () w' ∧ Blk (za0 i) 39 W.heap.size w' ∧ BW W w' := by
  obtain ⟨w', h1, h2, h3⟩ := (hr.within h.1 hr.lt).store (P := P) (za0 i).toList rfl (zn2 i)
  refine ⟨w', h1, h2, ?_⟩
  have hbw : Below W.heap.size W w := hb.trans (Below.mono h.1 hb.size)
  exact Below.stored hbw h3 (Nat.le_refl _) hbw.size
theorem Jn.cells (h : Jn W0 i g w) : w.cell? ⟨g, 0, none⟩ = some (.int .i64 i.op) ∧ w.cell? ⟨g, 1, none⟩ = some (.int .i64 i.rd) ∧ w.cell? ⟨g, 2, none⟩ = some (.int .i64 i.rs1) ∧ w.cell? ⟨g, 3, none⟩ = some (.int .i64 i.rs2) ∧
    w.cell? ⟨g, 4, none⟩ = some (.int .i64 i.imm) ∧ w.cell? ⟨g, 5, none⟩ = some (.bool i.aq) ∧ w.cell? ⟨g, 6, none⟩ = some (.bool i.rl) ∧ w.cell? ⟨g, 7, none⟩ = some (.int .i64 i.pred) ∧ w.cell? ⟨g, 8, none⟩ = some (.int .i64 i.succ) :=
  ⟨h.2.1.cell 0, h.2.1.cell 1, h.2.1.cell 2, h.2.1.cell 3, h.2.1.cell 4, h.2.1.cell 5, h.2.1.cell 6, h.2.1.cell 7, h.2.1.cell 8⟩
theorem Jn.frees (h : Jn W0 i g w) : w.frozen? ⟨g, 1, none⟩ = false ∧ w.frozen? ⟨g, 2, none⟩ = false ∧ w.frozen? ⟨g, 3, none⟩ = false ∧ w.frozen? ⟨g, 4, none⟩ = false ∧ w.frozen? ⟨g, 5, none⟩ = false ∧ w.frozen? ⟨g, 6, none⟩ = false ∧ w.frozen? ⟨g, 7, none⟩ = false ∧ w.frozen? ⟨g, 8, none⟩ = false :=
  ⟨h.2.1.free 1, h.2.1.free 2, h.2.1.free 3, h.2.1.free 4, h.2.1.free 5, h.2.1.free 6, h.2.1.free 7, h.2.1.free 8⟩
end
end Go.Proofs.YtmamblgpekafbaaGreatDoor
namespace Go.Proofs.YtmamblgpekafbaaGreatDoor
open Go.RowKit
theorem Jn.as {W0 w : World} {i i' : Ins} {g : Nat} (e : i' = i) (h : Jn W0 i g w) : Jn W0 i' g w := by rw [e]; exact h
theorem insOf_by (v : Int) {op : Int} (wr fi se hi b50 b51 : Bool) (fm sh : Int) (k1 : wrB op = wr) (k2 : firB op = fi) (k3 : secB op = se) (k4 : fmV op = fm) (k5 : shV op = sh) (k6 : decide (10 ≤ srt op) = hi) (k7 : (op == 50) = b50) (k8 : (op == 51) = b51) :
    zd8 v op = ⟨op, if wr then v / 128 % 32 else 0, if fi then v / 32768 % 32 else 0, if se then v / 1048576 % 32 else 0, if 0 < fm then getK fm v 32 else if sh = 6 then v / 1048576 % 64 else if sh = 5 then v / 1048576 % 32 else 0,
      hi && decide (v / 67108864 % 2 = 1), hi && decide (v / 33554432 % 2 = 1), if b50 then v / 16777216 % 16 else if b51 then 3 else 0, if b50 then v / 1048576 % 16 else if b51 then 3 else 0⟩ := by
  subst k1 k2 k3 k4 k5 k6 k7 k8
  unfold zd8
  simp only [beq_iff_eq]
set_option maxRecDepth 100000 in
theorem rdec_any (HIS : ∀ op, 1 ≤ op ∧ op ≤ 75 → IsAt op) (v : Int) (v0 : 0 ≤ v) (v1 : v < 4294967296) (w : World) :
    Calls Tryz.prog 40 #[.int .u32 v] w fun e w' => e = .returned (.tuple #[insV (decI v), .bool (decB v)]) ∧ BW w w' := by
  go_enter Tryz.func40, Tryz.ntmps40
  go_wp2
  have HR : Hid (Blk (za0 za5) 39 w.heap.size (w.alloc (.cells (za0 za5) 39))) := Blk.new _ _ w
  have HB0 : Hid (Below w.heap.size w (w.alloc (.cells (za0 za5) 39))) := (Below.refl _ _).alloc (Nat.le_refl _) _
  unfold za5 za0 at HR HB0
  simp only at HR HB0
  generalize w.alloc (.cells _ 39) = w0 at *
  have HRN : Hid (Blk (za0 za5) 39 w.heap.size w0) := HR.out
  go_loopw [4] (fun v4 wr => ∃ k : Nat, v4 = .int .i64 ((k : Int) + 1) ∧ k ≤ 75 ∧ BW w0 wr ∧ Hid (opK v k = 0)) (fun v4 _ => (76 - intOf v4).toNat)
  case atStart => exact ⟨0, rfl, by omega, Below.refl _ _, (show Hid _ from rfl)⟩
  case round =>
    obtain ⟨k, rfl, hk, hbw, HK⟩ := hrel
    obtain ⟨w3, rfl⟩ : ∃ w3 : World, w3 = wr := ⟨_, rfl⟩
    by_cases hlt : k < 75
    · have hltI : (k : Int) + 1 ≤ 75 := by omega
      obtain ⟨op, hop⟩ : ∃ op : Int, op = (k : Int) + 1 := ⟨_, rfl⟩
      rw [← hop] at hltI ⊢
      have HOP := Lib.hid hop
      have hop1 : 1 ≤ op := by omega
      clear hop
      have HI := fun w (h : BW w0 w) => (HIS op ⟨hop1, hltI⟩ v w v0 v1).mono fun e w' (hh : _ ∧ _) => And.intro hh.1 (BW.on h hh.2)
      cases hb : iswB v op
      · rw [hb] at HI
        have HN := Lib.hid hb
        clear hb
        go_wp2_with (first
          | (go_at_call 64; refine (HI _ (by assumption)).mono ?_; rintro e w4 ⟨rfl, hb4⟩))
        go_roundw
        case rel => exact ⟨k + 1, by rw [HOP.out]; go_num, by omega, by assumption, (show Hid _ from opK_no HK.out (by rw [← HOP.out]; exact HN.out))⟩
        case measure => simp [intOf, HOP.out]; omega
      · rw [hb] at HI
        have HN := Lib.hid hb
        clear hb
        go_upto_region 6 with (first
          | (go_at_call 64; refine (HI _ (by assumption)).mono ?_; rintro e w4 ⟨rfl, hb4⟩))
        have HJ : Jn w0 ⟨op, 0, 0, 0, 0, false, false, 0, 0⟩ w4.heap.size (w4.alloc (.cells (za0 ⟨op, 0, 0, 0, 0, false, false, 0, 0⟩) 39)) := ⟨hb4.new _, Blk.new _ _ _, Below.size hb4⟩
        unfold za0 at HJ
        simp only at HJ
        generalize w4.alloc (.cells _ 39) = w5 at *
        obtain ⟨g, hg⟩ : ∃ g, w4.heap.size = g := ⟨_, rfl⟩
        rw [hg] at HJ ⊢
        clear hg
        have KW := fun i w (h : Jn w0 i g w) => (zy5 op (by omega) (by omega) w).mono fun e w' (hh : _ ∧ _) => And.intro hh.1 (h.on hh.2)
        have KF := fun i w (h : Jn w0 i g w) => (zY3 op (by omega) (by omega) w).mono fun e w' (hh : _ ∧ _) => And.intro hh.1 (h.on hh.2)
        have KS := fun i w (h : Jn w0 i g w) => (zO8 op (by omega) (by omega) w).mono fun e w' (hh : _ ∧ _) => And.intro hh.1 (h.on hh.2)
        have KM := fun i w (h : Jn w0 i g w) => (fm_any op ⟨hop1, hltI⟩ w).mono fun e w' (hh : _ ∧ _) => And.intro hh.1 (h.on hh.2)
        have KG := fun i w (h : Jn w0 i g w) => (rget_any (fmV op) v v0 v1 w).mono fun e w' (hh : _ ∧ _) => And.intro hh.1 (h.on hh.2)
        have KH := fun i w (h : Jn w0 i g w) => (Zb8 op ⟨hop1, hltI⟩ w).mono fun e w' (hh : _ ∧ _) => And.intro hh.1 (h.on hh.2)
        have KO := fun i w (h : Jn w0 i g w) => (zf0 op (by omega) (by omega) w).mono fun e w' (hh : _ ∧ _) => And.intro hh.1 (h.on hh.2)
        have HCL := zG1 ⟨hop1, hltI⟩
        clear HI hb4
        rcases HCL with HCL | HCL | HCL | HCL | HCL | HCL | HCL | HCL | HCL | HCL | HCL | HCL | HCL
        all_goals
          as_aux_lemma =>
          obtain ⟨k1, k2, k3, k4, k5, k6, k7, k8⟩ := HCL
          first
            | (have k6d : decide (10 ≤ srt op) = true := decide_eq_true k6)
            | (have k6d : decide (10 ≤ srt op) = false := decide_eq_false (by omega))
          first
            | (have b7 : (op == 50) = true := by simpa using k7)
            | (have b7 : (op == 50) = false := by first | simpa using k7 | (simp; omega))
          first
            | (have b8 : (op == 51) = true := by simpa using k8)
            | (have b8 : (op == 51) = false := by first | simpa using k8 | (simp; omega))
          have HE := Lib.hid (insOf_by v _ _ _ _ _ _ _ _ k1 k2 k3 k4 k5 k6d b7 b8)
          clear k6d
          rw [k1] at KW
          rw [k2] at KF
          rw [k3] at KS
          rw [k4] at KM KG
          rw [k5] at KH
          clear k1 k2 k3 k4 k5 k7 k8
          generalize srt op = so at *
          go_upto_region 27 with (first
            | (go_at_call 65; (first | ((with_reducible refine (KW _ _ HJ).mono ?_)) | ((with_reducible refine (KW _ _ (HJ.s1 _)).mono ?_)) | ((with_reducible refine (KW _ _ (HJ.s2 _)).mono ?_)) | ((with_reducible refine (KW _ _ (HJ.s3 _)).mono ?_)) | ((with_reducible refine (KW _ _ (HJ.s4 _)).mono ?_))); rintro e w6 ⟨rfl, HJ⟩; obtain ⟨c0, c1, c2, c3, c4, c5, c6, c7, c8⟩ := HJ.cells; obtain ⟨f1, f2, f3, f4, f5, f6, f7, f8⟩ := HJ.frees)
            | (go_at_call 66; (first | ((with_reducible refine (KF _ _ HJ).mono ?_)) | ((with_reducible refine (KF _ _ (HJ.s1 _)).mono ?_)) | ((with_reducible refine (KF _ _ (HJ.s2 _)).mono ?_)) | ((with_reducible refine (KF _ _ (HJ.s3 _)).mono ?_)) | ((with_reducible refine (KF _ _ (HJ.s4 _)).mono ?_))); rintro e w6 ⟨rfl, HJ⟩; obtain ⟨c0, c1, c2, c3, c4, c5, c6, c7, c8⟩ := HJ.cells; obtain ⟨f1, f2, f3, f4, f5, f6, f7, f8⟩ := HJ.frees)
            | (go_at_call 67; (first | ((with_reducible refine (KS _ _ HJ).mono ?_)) | ((with_reducible refine (KS _ _ (HJ.s1 _)).mono ?_)) | ((with_reducible refine (KS _ _ (HJ.s2 _)).mono ?_)) | ((with_reducible refine (KS _ _ (HJ.s3 _)).mono ?_)) | ((with_reducible refine (KS _ _ (HJ.s4 _)).mono ?_))); rintro e w6 ⟨rfl, HJ⟩; obtain ⟨c0, c1, c2, c3, c4, c5, c6, c7, c8⟩ := HJ.cells; obtain ⟨f1, f2, f3, f4, f5, f6, f7, f8⟩ := HJ.frees)
            | (go_at_call 68; (first | ((with_reducible refine (KM _ _ HJ).mono ?_)) | ((with_reducible refine (KM _ _ (HJ.s1 _)).mono ?_)) | ((with_reducible refine (KM _ _ (HJ.s2 _)).mono ?_)) | ((with_reducible refine (KM _ _ (HJ.s3 _)).mono ?_)) | ((with_reducible refine (KM _ _ (HJ.s4 _)).mono ?_))); rintro e w6 ⟨rfl, HJ⟩; obtain ⟨c0, c1, c2, c3, c4, c5, c6, c7, c8⟩ := HJ.cells; obtain ⟨f1, f2, f3, f4, f5, f6, f7, f8⟩ := HJ.frees)
            | (go_at_call 69; (first | ((with_reducible refine (KG _ _ HJ).mono ?_)) | ((with_reducible refine (KG _ _ (HJ.s1 _)).mono ?_)) | ((with_reducible refine (KG _ _ (HJ.s2 _)).mono ?_)) | ((with_reducible refine (KG _ _ (HJ.s3 _)).mono ?_)) | ((with_reducible refine (KG _ _ (HJ.s4 _)).mono ?_))); rintro e w6 ⟨rfl, HJ⟩; obtain ⟨c0, c1, c2, c3, c4, c5, c6, c7, c8⟩ := HJ.cells; obtain ⟨f1, f2, f3, f4, f5, f6, f7, f8⟩ := HJ.frees)
            | (go_at_call 70; (first | ((with_reducible refine (KH _ _ HJ).mono ?_)) | ((with_reducible refine (KH _ _ (HJ.s1 _)).mono ?_)) | ((with_reducible refine (KH _ _ (HJ.s2 _)).mono ?_)) | ((with_reducible refine (KH _ _ (HJ.s3 _)).mono ?_)) | ((with_reducible refine (KH _ _ (HJ.s4 _)).mono ?_))); rintro e w6 ⟨rfl, HJ⟩; obtain ⟨c0, c1, c2, c3, c4, c5, c6, c7, c8⟩ := HJ.cells; obtain ⟨f1, f2, f3, f4, f5, f6, f7, f8⟩ := HJ.frees)
            | (go_at_call 23; (first | ((with_reducible refine (KO _ _ HJ).mono ?_)) | ((with_reducible refine (KO _ _ (HJ.s1 _)).mono ?_)) | ((with_reducible refine (KO _ _ (HJ.s2 _)).mono ?_)) | ((with_reducible refine (KO _ _ (HJ.s3 _)).mono ?_)) | ((with_reducible refine (KO _ _ (HJ.s4 _)).mono ?_))); rintro e w6 ⟨rfl, HJ⟩; obtain ⟨c0, c1, c2, c3, c4, c5, c6, c7, c8⟩ := HJ.cells; obtain ⟨f1, f2, f3, f4, f5, f6, f7, f8⟩ := HJ.frees))
          first
            | (have HF := Jn.as HE.out HJ)
            | (have HF := Jn.as HE.out ((HJ.s7 (v / 16777216 % 16)).s8 (v / 1048576 % 16)))
            | (have HF := Jn.as HE.out ((HJ.s7 3).s8 3))
            | (have HF := Jn.as HE.out ((HJ.s5 (v / 67108864 % 2 == 1)).s6 (v / 33554432 % 2 == 1)))
          obtain ⟨w7, hs, hb7, hbw7⟩ := HF.out (P := Tryz.prog) HRN.out HB0.out
          have HJB := Lib.hid HF.2.1
          clear HE c0 c1 c2 c3 c4 c5 c6 c7 c8 f1 f2 f3 f4 f5 f6 f7 f8
          go_wp2_with (with_reducible refine za8 (o := ⟨some 90, _, _, _, _, _⟩) rfl 39 (.tmp 5) rfl HJB.out rfl Tryz.underlying39 rfl (by kernel_rfl) ?_)
          have HO : Hid (opW v = op) := by have := Zk4 (show k < 75 by omega) HK.out (by rw [← HOP.out]; exact HN.out); rw [← HOP.out] at this; exact this
          have HD1 : decI v = zd8 v op := by unfold decI; rw [HO.out, if_neg (by omega)]
          have HD2 : decB v = true := by unfold decB; rw [HO.out, decide_eq_false (by omega)]; rfl
          rw [HD1, HD2]
          exact bodyPost_ret (zc2 rfl rfl hb7 Tryz.underlying39 rfl (by kernel_rfl)) rfl ⟨rfl, hbw7⟩
    · obtain rfl : k = 75 := by omega
      have HO : Hid (opW v = 0) := HK.out
      have hbw2 : Below w.heap.size w w3 := HB0.out.trans (Below.mono hbw HB0.out.size)
      have HZ := Lib.hid (HRN.out.within hbw HRN.out.lt)
      have c0 := HZ.out.cell 0
      have c1 := HZ.out.cell 1
      have c2 := HZ.out.cell 2
      have c3 := HZ.out.cell 3
      have c4 := HZ.out.cell 4
      have c5 := HZ.out.cell 5
      have c6 := HZ.out.cell 6
      have c7 := HZ.out.cell 7
      have c8 := HZ.out.cell 8
      simp only [za5, za0] at c0 c1 c2 c3 c4 c5 c6 c7 c8
      have f0 := HZ.out.free 0
      have f1 := HZ.out.free 1
      have f2 := HZ.out.free 2
      have f3 := HZ.out.free 3
      have f4 := HZ.out.free 4
      have f5 := HZ.out.free 5
      have f6 := HZ.out.free 6
      have f7 := HZ.out.free 7
      have f8 := HZ.out.free 8
      have HB2 := Lib.hid hbw2
      clear hbw2
      go_wp2
      have HD1 : decI v = za5 := by unfold decI; rw [HO.out, if_pos rfl]
      have HD2 : decB v = false := by unfold decB; rw [HO.out, decide_eq_true rfl]; rfl
      rw [HD1, HD2]
      have HW := (((((((((HZ.out.set 0 (.int .i64 0)).set 1 (.int .i64 0)).set 2 (.int .i64 0)).set 3 (.int .i64 0)).set 4 (.int .i64 0)).set 5 (.bool false)).set 6 (.bool false)).set 7 (.int .i64 0)).set 8 (.int .i64 0))
      have HW' : Blk (za0 za5) 39 w.heap.size _ := HW
      refine bodyPost_ret (zc2 rfl rfl HW' Tryz.underlying39 rfl (by kernel_rfl)) rfl ⟨rfl, ?_⟩
      exact ((((((((HB2.out.setCell (Nat.le_refl _) _).setCell (Nat.le_refl _) _).setCell (Nat.le_refl _) _).setCell (Nat.le_refl _) _).setCell (Nat.le_refl _) _).setCell (Nat.le_refl _) _).setCell (Nat.le_refl _) _).setCell (Nat.le_refl _) _).setCell (Nat.le_refl _) _
end Go.Proofs.YtmamblgpekafbaaGreatDoor
namespace Go.Proofs.YtmamblgpekafbaaGreatDoor
open Go.RowKit
def U32 (x : Int) : Prop := 0 ≤ x ∧ x < 4294967296
def decE (v : Int) : Int := if decB v then 0 else 2
theorem insOf_op (v k : Int) : (zd8 v k).op = k := rfl
theorem zw1 {v : Int} (h : opW v ≠ 0) : decE v = 0 := by
  have e : decB v = true := by unfold decB; simp [h]
  unfold decE; rw [e]; rfl
end Go.Proofs.YtmamblgpekafbaaGreatDoor
namespace Go.Proofs.YtmamblgpekafbaaGreatDoor
open Go.RowKit
def clnI (i : Ins) : Ins := { i with rd := if wrB i.op then i.rd else 0, rs1 := if firB i.op then i.rs1 else 0, rs2 := if secB i.op then i.rs2 else 0 }
end Go.Proofs.YtmamblgpekafbaaGreatDoor
