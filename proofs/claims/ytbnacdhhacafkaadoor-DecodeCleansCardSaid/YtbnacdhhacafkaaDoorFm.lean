/- The document's Format and Five, operation by operation. -/
import Derived.Test.YtbnacdhhacafkaaDoorRows
import Derived.Test.YtbnacdhhacafkaaDoorSz
import Derived.Test.YtbnacdhhacafkaaDoorTd
import Derived.Test.YtbnacdhhacafkaaDoorSh
import Derived.WalkKit
import Derived.WalkLawsBesides
import Derived.Deep.QuietTactic
import Derived.BigQuiet
import Derived.WalkSmall
import Derived.WalkSpells
import Derived.Lib.Hide
import Derived.Below
namespace Go.Proofs.YtbnacdhhacafkaaDoor
open Go.RowKit

def FmAt (op : Int) : Prop := ∀ w : World, Calls Tryd.prog 29 #[.int .i64 op] w fun e w' => e = .returned (.int .i64 (fmV op)) ∧ BW w w'
def FvAt (op : Int) : Prop := ∀ w : World, Calls Tryd.prog 50 #[.int .i64 op] w fun e w' => e = .returned (.int .u32 (agV op)) ∧ BW w w'
theorem fm_1 : FmAt 1 := by
  intro w
  have HS := fun w1 h => sort_bw w w1 h 1 (by decide) (by decide)
  have HB : BW w w := Below.refl _ _
  rw [show srt 1 = 1 by decide] at HS
  have HH : ∀ w1, BW w w1 → Calls Tryd.prog 31 #[.int .i64 1] w1 fun e w' => e = .returned (.int .i64 (shV 1)) ∧ BW w w' := fun w1 h => (sh_any 1 (by decide) w1).mono fun _ _ ⟨he, hb⟩ => ⟨he, h.on hb⟩
  rw [show shV 1 = 0 by decide] at HH
  go_enter Tryd.func29, Tryd.ntmps29
  go_wp2_with (first
    | (go_at_call 19; refine (HS _ (by assumption)).mono ?_; rintro e w' ⟨rfl, hb⟩)
    | (go_at_call 31; refine (HH _ (by assumption)).mono ?_; rintro e w' ⟨rfl, hb⟩))
  go_ret
  exact ⟨ret_int (by decide), by first | assumption | exact BW.new (by assumption) _⟩
theorem fm_2 : FmAt 2 := by
  intro w
  have HS := fun w1 h => sort_bw w w1 h 2 (by decide) (by decide)
  have HB : BW w w := Below.refl _ _
  rw [show srt 2 = 1 by decide] at HS
  have HH : ∀ w1, BW w w1 → Calls Tryd.prog 31 #[.int .i64 2] w1 fun e w' => e = .returned (.int .i64 (shV 2)) ∧ BW w w' := fun w1 h => (sh_any 2 (by decide) w1).mono fun _ _ ⟨he, hb⟩ => ⟨he, h.on hb⟩
  rw [show shV 2 = 0 by decide] at HH
  go_enter Tryd.func29, Tryd.ntmps29
  go_wp2_with (first
    | (go_at_call 19; refine (HS _ (by assumption)).mono ?_; rintro e w' ⟨rfl, hb⟩)
    | (go_at_call 31; refine (HH _ (by assumption)).mono ?_; rintro e w' ⟨rfl, hb⟩))
  go_ret
  exact ⟨ret_int (by decide), by first | assumption | exact BW.new (by assumption) _⟩
theorem fm_3 : FmAt 3 := by
  intro w
  have HS := fun w1 h => sort_bw w w1 h 3 (by decide) (by decide)
  have HB : BW w w := Below.refl _ _
  rw [show srt 3 = 2 by decide] at HS
  have HH : ∀ w1, BW w w1 → Calls Tryd.prog 31 #[.int .i64 3] w1 fun e w' => e = .returned (.int .i64 (shV 3)) ∧ BW w w' := fun w1 h => (sh_any 3 (by decide) w1).mono fun _ _ ⟨he, hb⟩ => ⟨he, h.on hb⟩
  rw [show shV 3 = 0 by decide] at HH
  go_enter Tryd.func29, Tryd.ntmps29
  go_wp2_with (first
    | (go_at_call 19; refine (HS _ (by assumption)).mono ?_; rintro e w' ⟨rfl, hb⟩)
    | (go_at_call 31; refine (HH _ (by assumption)).mono ?_; rintro e w' ⟨rfl, hb⟩))
  go_ret
  exact ⟨ret_int (by decide), by first | assumption | exact BW.new (by assumption) _⟩
theorem fm_4 : FmAt 4 := by
  intro w
  have HS := fun w1 h => sort_bw w w1 h 4 (by decide) (by decide)
  have HB : BW w w := Below.refl _ _
  rw [show srt 4 = 2 by decide] at HS
  have HH : ∀ w1, BW w w1 → Calls Tryd.prog 31 #[.int .i64 4] w1 fun e w' => e = .returned (.int .i64 (shV 4)) ∧ BW w w' := fun w1 h => (sh_any 4 (by decide) w1).mono fun _ _ ⟨he, hb⟩ => ⟨he, h.on hb⟩
  rw [show shV 4 = 0 by decide] at HH
  go_enter Tryd.func29, Tryd.ntmps29
  go_wp2_with (first
    | (go_at_call 19; refine (HS _ (by assumption)).mono ?_; rintro e w' ⟨rfl, hb⟩)
    | (go_at_call 31; refine (HH _ (by assumption)).mono ?_; rintro e w' ⟨rfl, hb⟩))
  go_ret
  exact ⟨ret_int (by decide), by first | assumption | exact BW.new (by assumption) _⟩
theorem fm_5 : FmAt 5 := by
  intro w
  have HS := fun w1 h => sort_bw w w1 h 5 (by decide) (by decide)
  have HB : BW w w := Below.refl _ _
  rw [show srt 5 = 3 by decide] at HS
  have HH : ∀ w1, BW w w1 → Calls Tryd.prog 31 #[.int .i64 5] w1 fun e w' => e = .returned (.int .i64 (shV 5)) ∧ BW w w' := fun w1 h => (sh_any 5 (by decide) w1).mono fun _ _ ⟨he, hb⟩ => ⟨he, h.on hb⟩
  rw [show shV 5 = 0 by decide] at HH
  go_enter Tryd.func29, Tryd.ntmps29
  go_wp2_with (first
    | (go_at_call 19; refine (HS _ (by assumption)).mono ?_; rintro e w' ⟨rfl, hb⟩)
    | (go_at_call 31; refine (HH _ (by assumption)).mono ?_; rintro e w' ⟨rfl, hb⟩))
  go_ret
  exact ⟨ret_int (by decide), by first | assumption | exact BW.new (by assumption) _⟩
theorem fm_6 : FmAt 6 := by
  intro w
  have HS := fun w1 h => sort_bw w w1 h 6 (by decide) (by decide)
  have HB : BW w w := Below.refl _ _
  rw [show srt 6 = 3 by decide] at HS
  have HH : ∀ w1, BW w w1 → Calls Tryd.prog 31 #[.int .i64 6] w1 fun e w' => e = .returned (.int .i64 (shV 6)) ∧ BW w w' := fun w1 h => (sh_any 6 (by decide) w1).mono fun _ _ ⟨he, hb⟩ => ⟨he, h.on hb⟩
  rw [show shV 6 = 0 by decide] at HH
  go_enter Tryd.func29, Tryd.ntmps29
  go_wp2_with (first
    | (go_at_call 19; refine (HS _ (by assumption)).mono ?_; rintro e w' ⟨rfl, hb⟩)
    | (go_at_call 31; refine (HH _ (by assumption)).mono ?_; rintro e w' ⟨rfl, hb⟩))
  go_ret
  exact ⟨ret_int (by decide), by first | assumption | exact BW.new (by assumption) _⟩
theorem fm_7 : FmAt 7 := by
  intro w
  have HS := fun w1 h => sort_bw w w1 h 7 (by decide) (by decide)
  have HB : BW w w := Below.refl _ _
  rw [show srt 7 = 3 by decide] at HS
  have HH : ∀ w1, BW w w1 → Calls Tryd.prog 31 #[.int .i64 7] w1 fun e w' => e = .returned (.int .i64 (shV 7)) ∧ BW w w' := fun w1 h => (sh_any 7 (by decide) w1).mono fun _ _ ⟨he, hb⟩ => ⟨he, h.on hb⟩
  rw [show shV 7 = 0 by decide] at HH
  go_enter Tryd.func29, Tryd.ntmps29
  go_wp2_with (first
    | (go_at_call 19; refine (HS _ (by assumption)).mono ?_; rintro e w' ⟨rfl, hb⟩)
    | (go_at_call 31; refine (HH _ (by assumption)).mono ?_; rintro e w' ⟨rfl, hb⟩))
  go_ret
  exact ⟨ret_int (by decide), by first | assumption | exact BW.new (by assumption) _⟩
theorem fm_8 : FmAt 8 := by
  intro w
  have HS := fun w1 h => sort_bw w w1 h 8 (by decide) (by decide)
  have HB : BW w w := Below.refl _ _
  rw [show srt 8 = 3 by decide] at HS
  have HH : ∀ w1, BW w w1 → Calls Tryd.prog 31 #[.int .i64 8] w1 fun e w' => e = .returned (.int .i64 (shV 8)) ∧ BW w w' := fun w1 h => (sh_any 8 (by decide) w1).mono fun _ _ ⟨he, hb⟩ => ⟨he, h.on hb⟩
  rw [show shV 8 = 0 by decide] at HH
  go_enter Tryd.func29, Tryd.ntmps29
  go_wp2_with (first
    | (go_at_call 19; refine (HS _ (by assumption)).mono ?_; rintro e w' ⟨rfl, hb⟩)
    | (go_at_call 31; refine (HH _ (by assumption)).mono ?_; rintro e w' ⟨rfl, hb⟩))
  go_ret
  exact ⟨ret_int (by decide), by first | assumption | exact BW.new (by assumption) _⟩
theorem fm_9 : FmAt 9 := by
  intro w
  have HS := fun w1 h => sort_bw w w1 h 9 (by decide) (by decide)
  have HB : BW w w := Below.refl _ _
  rw [show srt 9 = 3 by decide] at HS
  have HH : ∀ w1, BW w w1 → Calls Tryd.prog 31 #[.int .i64 9] w1 fun e w' => e = .returned (.int .i64 (shV 9)) ∧ BW w w' := fun w1 h => (sh_any 9 (by decide) w1).mono fun _ _ ⟨he, hb⟩ => ⟨he, h.on hb⟩
  rw [show shV 9 = 0 by decide] at HH
  go_enter Tryd.func29, Tryd.ntmps29
  go_wp2_with (first
    | (go_at_call 19; refine (HS _ (by assumption)).mono ?_; rintro e w' ⟨rfl, hb⟩)
    | (go_at_call 31; refine (HH _ (by assumption)).mono ?_; rintro e w' ⟨rfl, hb⟩))
  go_ret
  exact ⟨ret_int (by decide), by first | assumption | exact BW.new (by assumption) _⟩
theorem fm_10 : FmAt 10 := by
  intro w
  have HS := fun w1 h => sort_bw w w1 h 10 (by decide) (by decide)
  have HB : BW w w := Below.refl _ _
  rw [show srt 10 = 3 by decide] at HS
  have HH : ∀ w1, BW w w1 → Calls Tryd.prog 31 #[.int .i64 10] w1 fun e w' => e = .returned (.int .i64 (shV 10)) ∧ BW w w' := fun w1 h => (sh_any 10 (by decide) w1).mono fun _ _ ⟨he, hb⟩ => ⟨he, h.on hb⟩
  rw [show shV 10 = 0 by decide] at HH
  go_enter Tryd.func29, Tryd.ntmps29
  go_wp2_with (first
    | (go_at_call 19; refine (HS _ (by assumption)).mono ?_; rintro e w' ⟨rfl, hb⟩)
    | (go_at_call 31; refine (HH _ (by assumption)).mono ?_; rintro e w' ⟨rfl, hb⟩))
  go_ret
  exact ⟨ret_int (by decide), by first | assumption | exact BW.new (by assumption) _⟩
theorem fm_11 : FmAt 11 := by
  intro w
  have HS := fun w1 h => sort_bw w w1 h 11 (by decide) (by decide)
  have HB : BW w w := Below.refl _ _
  rw [show srt 11 = 4 by decide] at HS
  have HH : ∀ w1, BW w w1 → Calls Tryd.prog 31 #[.int .i64 11] w1 fun e w' => e = .returned (.int .i64 (shV 11)) ∧ BW w w' := fun w1 h => (sh_any 11 (by decide) w1).mono fun _ _ ⟨he, hb⟩ => ⟨he, h.on hb⟩
  rw [show shV 11 = 0 by decide] at HH
  go_enter Tryd.func29, Tryd.ntmps29
  go_wp2_with (first
    | (go_at_call 19; refine (HS _ (by assumption)).mono ?_; rintro e w' ⟨rfl, hb⟩)
    | (go_at_call 31; refine (HH _ (by assumption)).mono ?_; rintro e w' ⟨rfl, hb⟩))
  go_ret
  exact ⟨ret_int (by decide), by first | assumption | exact BW.new (by assumption) _⟩
theorem fm_12 : FmAt 12 := by
  intro w
  have HS := fun w1 h => sort_bw w w1 h 12 (by decide) (by decide)
  have HB : BW w w := Below.refl _ _
  rw [show srt 12 = 4 by decide] at HS
  have HH : ∀ w1, BW w w1 → Calls Tryd.prog 31 #[.int .i64 12] w1 fun e w' => e = .returned (.int .i64 (shV 12)) ∧ BW w w' := fun w1 h => (sh_any 12 (by decide) w1).mono fun _ _ ⟨he, hb⟩ => ⟨he, h.on hb⟩
  rw [show shV 12 = 0 by decide] at HH
  go_enter Tryd.func29, Tryd.ntmps29
  go_wp2_with (first
    | (go_at_call 19; refine (HS _ (by assumption)).mono ?_; rintro e w' ⟨rfl, hb⟩)
    | (go_at_call 31; refine (HH _ (by assumption)).mono ?_; rintro e w' ⟨rfl, hb⟩))
  go_ret
  exact ⟨ret_int (by decide), by first | assumption | exact BW.new (by assumption) _⟩
theorem fm_13 : FmAt 13 := by
  intro w
  have HS := fun w1 h => sort_bw w w1 h 13 (by decide) (by decide)
  have HB : BW w w := Below.refl _ _
  rw [show srt 13 = 4 by decide] at HS
  have HH : ∀ w1, BW w w1 → Calls Tryd.prog 31 #[.int .i64 13] w1 fun e w' => e = .returned (.int .i64 (shV 13)) ∧ BW w w' := fun w1 h => (sh_any 13 (by decide) w1).mono fun _ _ ⟨he, hb⟩ => ⟨he, h.on hb⟩
  rw [show shV 13 = 0 by decide] at HH
  go_enter Tryd.func29, Tryd.ntmps29
  go_wp2_with (first
    | (go_at_call 19; refine (HS _ (by assumption)).mono ?_; rintro e w' ⟨rfl, hb⟩)
    | (go_at_call 31; refine (HH _ (by assumption)).mono ?_; rintro e w' ⟨rfl, hb⟩))
  go_ret
  exact ⟨ret_int (by decide), by first | assumption | exact BW.new (by assumption) _⟩
theorem fm_14 : FmAt 14 := by
  intro w
  have HS := fun w1 h => sort_bw w w1 h 14 (by decide) (by decide)
  have HB : BW w w := Below.refl _ _
  rw [show srt 14 = 4 by decide] at HS
  have HH : ∀ w1, BW w w1 → Calls Tryd.prog 31 #[.int .i64 14] w1 fun e w' => e = .returned (.int .i64 (shV 14)) ∧ BW w w' := fun w1 h => (sh_any 14 (by decide) w1).mono fun _ _ ⟨he, hb⟩ => ⟨he, h.on hb⟩
  rw [show shV 14 = 0 by decide] at HH
  go_enter Tryd.func29, Tryd.ntmps29
  go_wp2_with (first
    | (go_at_call 19; refine (HS _ (by assumption)).mono ?_; rintro e w' ⟨rfl, hb⟩)
    | (go_at_call 31; refine (HH _ (by assumption)).mono ?_; rintro e w' ⟨rfl, hb⟩))
  go_ret
  exact ⟨ret_int (by decide), by first | assumption | exact BW.new (by assumption) _⟩
theorem fm_15 : FmAt 15 := by
  intro w
  have HS := fun w1 h => sort_bw w w1 h 15 (by decide) (by decide)
  have HB : BW w w := Below.refl _ _
  rw [show srt 15 = 4 by decide] at HS
  have HH : ∀ w1, BW w w1 → Calls Tryd.prog 31 #[.int .i64 15] w1 fun e w' => e = .returned (.int .i64 (shV 15)) ∧ BW w w' := fun w1 h => (sh_any 15 (by decide) w1).mono fun _ _ ⟨he, hb⟩ => ⟨he, h.on hb⟩
  rw [show shV 15 = 0 by decide] at HH
  go_enter Tryd.func29, Tryd.ntmps29
  go_wp2_with (first
    | (go_at_call 19; refine (HS _ (by assumption)).mono ?_; rintro e w' ⟨rfl, hb⟩)
    | (go_at_call 31; refine (HH _ (by assumption)).mono ?_; rintro e w' ⟨rfl, hb⟩))
  go_ret
  exact ⟨ret_int (by decide), by first | assumption | exact BW.new (by assumption) _⟩
theorem fm_16 : FmAt 16 := by
  intro w
  have HS := fun w1 h => sort_bw w w1 h 16 (by decide) (by decide)
  have HB : BW w w := Below.refl _ _
  rw [show srt 16 = 4 by decide] at HS
  have HH : ∀ w1, BW w w1 → Calls Tryd.prog 31 #[.int .i64 16] w1 fun e w' => e = .returned (.int .i64 (shV 16)) ∧ BW w w' := fun w1 h => (sh_any 16 (by decide) w1).mono fun _ _ ⟨he, hb⟩ => ⟨he, h.on hb⟩
  rw [show shV 16 = 0 by decide] at HH
  go_enter Tryd.func29, Tryd.ntmps29
  go_wp2_with (first
    | (go_at_call 19; refine (HS _ (by assumption)).mono ?_; rintro e w' ⟨rfl, hb⟩)
    | (go_at_call 31; refine (HH _ (by assumption)).mono ?_; rintro e w' ⟨rfl, hb⟩))
  go_ret
  exact ⟨ret_int (by decide), by first | assumption | exact BW.new (by assumption) _⟩
theorem fm_17 : FmAt 17 := by
  intro w
  have HS := fun w1 h => sort_bw w w1 h 17 (by decide) (by decide)
  have HB : BW w w := Below.refl _ _
  rw [show srt 17 = 4 by decide] at HS
  have HH : ∀ w1, BW w w1 → Calls Tryd.prog 31 #[.int .i64 17] w1 fun e w' => e = .returned (.int .i64 (shV 17)) ∧ BW w w' := fun w1 h => (sh_any 17 (by decide) w1).mono fun _ _ ⟨he, hb⟩ => ⟨he, h.on hb⟩
  rw [show shV 17 = 0 by decide] at HH
  go_enter Tryd.func29, Tryd.ntmps29
  go_wp2_with (first
    | (go_at_call 19; refine (HS _ (by assumption)).mono ?_; rintro e w' ⟨rfl, hb⟩)
    | (go_at_call 31; refine (HH _ (by assumption)).mono ?_; rintro e w' ⟨rfl, hb⟩))
  go_ret
  exact ⟨ret_int (by decide), by first | assumption | exact BW.new (by assumption) _⟩
theorem fm_18 : FmAt 18 := by
  intro w
  have HS := fun w1 h => sort_bw w w1 h 18 (by decide) (by decide)
  have HB : BW w w := Below.refl _ _
  rw [show srt 18 = 5 by decide] at HS
  have HH : ∀ w1, BW w w1 → Calls Tryd.prog 31 #[.int .i64 18] w1 fun e w' => e = .returned (.int .i64 (shV 18)) ∧ BW w w' := fun w1 h => (sh_any 18 (by decide) w1).mono fun _ _ ⟨he, hb⟩ => ⟨he, h.on hb⟩
  rw [show shV 18 = 0 by decide] at HH
  go_enter Tryd.func29, Tryd.ntmps29
  go_wp2_with (first
    | (go_at_call 19; refine (HS _ (by assumption)).mono ?_; rintro e w' ⟨rfl, hb⟩)
    | (go_at_call 31; refine (HH _ (by assumption)).mono ?_; rintro e w' ⟨rfl, hb⟩))
  go_ret
  exact ⟨ret_int (by decide), by first | assumption | exact BW.new (by assumption) _⟩
theorem fm_19 : FmAt 19 := by
  intro w
  have HS := fun w1 h => sort_bw w w1 h 19 (by decide) (by decide)
  have HB : BW w w := Below.refl _ _
  rw [show srt 19 = 5 by decide] at HS
  have HH : ∀ w1, BW w w1 → Calls Tryd.prog 31 #[.int .i64 19] w1 fun e w' => e = .returned (.int .i64 (shV 19)) ∧ BW w w' := fun w1 h => (sh_any 19 (by decide) w1).mono fun _ _ ⟨he, hb⟩ => ⟨he, h.on hb⟩
  rw [show shV 19 = 0 by decide] at HH
  go_enter Tryd.func29, Tryd.ntmps29
  go_wp2_with (first
    | (go_at_call 19; refine (HS _ (by assumption)).mono ?_; rintro e w' ⟨rfl, hb⟩)
    | (go_at_call 31; refine (HH _ (by assumption)).mono ?_; rintro e w' ⟨rfl, hb⟩))
  go_ret
  exact ⟨ret_int (by decide), by first | assumption | exact BW.new (by assumption) _⟩
theorem fm_20 : FmAt 20 := by
  intro w
  have HS := fun w1 h => sort_bw w w1 h 20 (by decide) (by decide)
  have HB : BW w w := Below.refl _ _
  rw [show srt 20 = 5 by decide] at HS
  have HH : ∀ w1, BW w w1 → Calls Tryd.prog 31 #[.int .i64 20] w1 fun e w' => e = .returned (.int .i64 (shV 20)) ∧ BW w w' := fun w1 h => (sh_any 20 (by decide) w1).mono fun _ _ ⟨he, hb⟩ => ⟨he, h.on hb⟩
  rw [show shV 20 = 0 by decide] at HH
  go_enter Tryd.func29, Tryd.ntmps29
  go_wp2_with (first
    | (go_at_call 19; refine (HS _ (by assumption)).mono ?_; rintro e w' ⟨rfl, hb⟩)
    | (go_at_call 31; refine (HH _ (by assumption)).mono ?_; rintro e w' ⟨rfl, hb⟩))
  go_ret
  exact ⟨ret_int (by decide), by first | assumption | exact BW.new (by assumption) _⟩
theorem fm_21 : FmAt 21 := by
  intro w
  have HS := fun w1 h => sort_bw w w1 h 21 (by decide) (by decide)
  have HB : BW w w := Below.refl _ _
  rw [show srt 21 = 5 by decide] at HS
  have HH : ∀ w1, BW w w1 → Calls Tryd.prog 31 #[.int .i64 21] w1 fun e w' => e = .returned (.int .i64 (shV 21)) ∧ BW w w' := fun w1 h => (sh_any 21 (by decide) w1).mono fun _ _ ⟨he, hb⟩ => ⟨he, h.on hb⟩
  rw [show shV 21 = 0 by decide] at HH
  go_enter Tryd.func29, Tryd.ntmps29
  go_wp2_with (first
    | (go_at_call 19; refine (HS _ (by assumption)).mono ?_; rintro e w' ⟨rfl, hb⟩)
    | (go_at_call 31; refine (HH _ (by assumption)).mono ?_; rintro e w' ⟨rfl, hb⟩))
  go_ret
  exact ⟨ret_int (by decide), by first | assumption | exact BW.new (by assumption) _⟩
theorem fm_22 : FmAt 22 := by
  intro w
  have HS := fun w1 h => sort_bw w w1 h 22 (by decide) (by decide)
  have HB : BW w w := Below.refl _ _
  rw [show srt 22 = 6 by decide] at HS
  have HH : ∀ w1, BW w w1 → Calls Tryd.prog 31 #[.int .i64 22] w1 fun e w' => e = .returned (.int .i64 (shV 22)) ∧ BW w w' := fun w1 h => (sh_any 22 (by decide) w1).mono fun _ _ ⟨he, hb⟩ => ⟨he, h.on hb⟩
  rw [show shV 22 = 0 by decide] at HH
  go_enter Tryd.func29, Tryd.ntmps29
  go_wp2_with (first
    | (go_at_call 19; refine (HS _ (by assumption)).mono ?_; rintro e w' ⟨rfl, hb⟩)
    | (go_at_call 31; refine (HH _ (by assumption)).mono ?_; rintro e w' ⟨rfl, hb⟩))
  go_ret
  exact ⟨ret_int (by decide), by first | assumption | exact BW.new (by assumption) _⟩
theorem fm_23 : FmAt 23 := by
  intro w
  have HS := fun w1 h => sort_bw w w1 h 23 (by decide) (by decide)
  have HB : BW w w := Below.refl _ _
  rw [show srt 23 = 6 by decide] at HS
  have HH : ∀ w1, BW w w1 → Calls Tryd.prog 31 #[.int .i64 23] w1 fun e w' => e = .returned (.int .i64 (shV 23)) ∧ BW w w' := fun w1 h => (sh_any 23 (by decide) w1).mono fun _ _ ⟨he, hb⟩ => ⟨he, h.on hb⟩
  rw [show shV 23 = 0 by decide] at HH
  go_enter Tryd.func29, Tryd.ntmps29
  go_wp2_with (first
    | (go_at_call 19; refine (HS _ (by assumption)).mono ?_; rintro e w' ⟨rfl, hb⟩)
    | (go_at_call 31; refine (HH _ (by assumption)).mono ?_; rintro e w' ⟨rfl, hb⟩))
  go_ret
  exact ⟨ret_int (by decide), by first | assumption | exact BW.new (by assumption) _⟩
theorem fm_24 : FmAt 24 := by
  intro w
  have HS := fun w1 h => sort_bw w w1 h 24 (by decide) (by decide)
  have HB : BW w w := Below.refl _ _
  rw [show srt 24 = 6 by decide] at HS
  have HH : ∀ w1, BW w w1 → Calls Tryd.prog 31 #[.int .i64 24] w1 fun e w' => e = .returned (.int .i64 (shV 24)) ∧ BW w w' := fun w1 h => (sh_any 24 (by decide) w1).mono fun _ _ ⟨he, hb⟩ => ⟨he, h.on hb⟩
  rw [show shV 24 = 0 by decide] at HH
  go_enter Tryd.func29, Tryd.ntmps29
  go_wp2_with (first
    | (go_at_call 19; refine (HS _ (by assumption)).mono ?_; rintro e w' ⟨rfl, hb⟩)
    | (go_at_call 31; refine (HH _ (by assumption)).mono ?_; rintro e w' ⟨rfl, hb⟩))
  go_ret
  exact ⟨ret_int (by decide), by first | assumption | exact BW.new (by assumption) _⟩
theorem fm_25 : FmAt 25 := by
  intro w
  have HS := fun w1 h => sort_bw w w1 h 25 (by decide) (by decide)
  have HB : BW w w := Below.refl _ _
  rw [show srt 25 = 6 by decide] at HS
  have HH : ∀ w1, BW w w1 → Calls Tryd.prog 31 #[.int .i64 25] w1 fun e w' => e = .returned (.int .i64 (shV 25)) ∧ BW w w' := fun w1 h => (sh_any 25 (by decide) w1).mono fun _ _ ⟨he, hb⟩ => ⟨he, h.on hb⟩
  rw [show shV 25 = 0 by decide] at HH
  go_enter Tryd.func29, Tryd.ntmps29
  go_wp2_with (first
    | (go_at_call 19; refine (HS _ (by assumption)).mono ?_; rintro e w' ⟨rfl, hb⟩)
    | (go_at_call 31; refine (HH _ (by assumption)).mono ?_; rintro e w' ⟨rfl, hb⟩))
  go_ret
  exact ⟨ret_int (by decide), by first | assumption | exact BW.new (by assumption) _⟩
theorem fm_26 : FmAt 26 := by
  intro w
  have HS := fun w1 h => sort_bw w w1 h 26 (by decide) (by decide)
  have HB : BW w w := Below.refl _ _
  rw [show srt 26 = 6 by decide] at HS
  have HH : ∀ w1, BW w w1 → Calls Tryd.prog 31 #[.int .i64 26] w1 fun e w' => e = .returned (.int .i64 (shV 26)) ∧ BW w w' := fun w1 h => (sh_any 26 (by decide) w1).mono fun _ _ ⟨he, hb⟩ => ⟨he, h.on hb⟩
  rw [show shV 26 = 0 by decide] at HH
  go_enter Tryd.func29, Tryd.ntmps29
  go_wp2_with (first
    | (go_at_call 19; refine (HS _ (by assumption)).mono ?_; rintro e w' ⟨rfl, hb⟩)
    | (go_at_call 31; refine (HH _ (by assumption)).mono ?_; rintro e w' ⟨rfl, hb⟩))
  go_ret
  exact ⟨ret_int (by decide), by first | assumption | exact BW.new (by assumption) _⟩
theorem fm_27 : FmAt 27 := by
  intro w
  have HS := fun w1 h => sort_bw w w1 h 27 (by decide) (by decide)
  have HB : BW w w := Below.refl _ _
  rw [show srt 27 = 6 by decide] at HS
  have HH : ∀ w1, BW w w1 → Calls Tryd.prog 31 #[.int .i64 27] w1 fun e w' => e = .returned (.int .i64 (shV 27)) ∧ BW w w' := fun w1 h => (sh_any 27 (by decide) w1).mono fun _ _ ⟨he, hb⟩ => ⟨he, h.on hb⟩
  rw [show shV 27 = 0 by decide] at HH
  go_enter Tryd.func29, Tryd.ntmps29
  go_wp2_with (first
    | (go_at_call 19; refine (HS _ (by assumption)).mono ?_; rintro e w' ⟨rfl, hb⟩)
    | (go_at_call 31; refine (HH _ (by assumption)).mono ?_; rintro e w' ⟨rfl, hb⟩))
  go_ret
  exact ⟨ret_int (by decide), by first | assumption | exact BW.new (by assumption) _⟩
theorem fm_28 : FmAt 28 := by
  intro w
  have HS := fun w1 h => sort_bw w w1 h 28 (by decide) (by decide)
  have HB : BW w w := Below.refl _ _
  rw [show srt 28 = 6 by decide] at HS
  have HH : ∀ w1, BW w w1 → Calls Tryd.prog 31 #[.int .i64 28] w1 fun e w' => e = .returned (.int .i64 (shV 28)) ∧ BW w w' := fun w1 h => (sh_any 28 (by decide) w1).mono fun _ _ ⟨he, hb⟩ => ⟨he, h.on hb⟩
  rw [show shV 28 = 6 by decide] at HH
  go_enter Tryd.func29, Tryd.ntmps29
  go_wp2_with (first
    | (go_at_call 19; refine (HS _ (by assumption)).mono ?_; rintro e w' ⟨rfl, hb⟩)
    | (go_at_call 31; refine (HH _ (by assumption)).mono ?_; rintro e w' ⟨rfl, hb⟩))
  go_ret
  exact ⟨ret_int (by decide), by first | assumption | exact BW.new (by assumption) _⟩
theorem fm_29 : FmAt 29 := by
  intro w
  have HS := fun w1 h => sort_bw w w1 h 29 (by decide) (by decide)
  have HB : BW w w := Below.refl _ _
  rw [show srt 29 = 6 by decide] at HS
  have HH : ∀ w1, BW w w1 → Calls Tryd.prog 31 #[.int .i64 29] w1 fun e w' => e = .returned (.int .i64 (shV 29)) ∧ BW w w' := fun w1 h => (sh_any 29 (by decide) w1).mono fun _ _ ⟨he, hb⟩ => ⟨he, h.on hb⟩
  rw [show shV 29 = 6 by decide] at HH
  go_enter Tryd.func29, Tryd.ntmps29
  go_wp2_with (first
    | (go_at_call 19; refine (HS _ (by assumption)).mono ?_; rintro e w' ⟨rfl, hb⟩)
    | (go_at_call 31; refine (HH _ (by assumption)).mono ?_; rintro e w' ⟨rfl, hb⟩))
  go_ret
  exact ⟨ret_int (by decide), by first | assumption | exact BW.new (by assumption) _⟩
theorem fm_30 : FmAt 30 := by
  intro w
  have HS := fun w1 h => sort_bw w w1 h 30 (by decide) (by decide)
  have HB : BW w w := Below.refl _ _
  rw [show srt 30 = 6 by decide] at HS
  have HH : ∀ w1, BW w w1 → Calls Tryd.prog 31 #[.int .i64 30] w1 fun e w' => e = .returned (.int .i64 (shV 30)) ∧ BW w w' := fun w1 h => (sh_any 30 (by decide) w1).mono fun _ _ ⟨he, hb⟩ => ⟨he, h.on hb⟩
  rw [show shV 30 = 6 by decide] at HH
  go_enter Tryd.func29, Tryd.ntmps29
  go_wp2_with (first
    | (go_at_call 19; refine (HS _ (by assumption)).mono ?_; rintro e w' ⟨rfl, hb⟩)
    | (go_at_call 31; refine (HH _ (by assumption)).mono ?_; rintro e w' ⟨rfl, hb⟩))
  go_ret
  exact ⟨ret_int (by decide), by first | assumption | exact BW.new (by assumption) _⟩
theorem fm_31 : FmAt 31 := by
  intro w
  have HS := fun w1 h => sort_bw w w1 h 31 (by decide) (by decide)
  have HB : BW w w := Below.refl _ _
  rw [show srt 31 = 6 by decide] at HS
  have HH : ∀ w1, BW w w1 → Calls Tryd.prog 31 #[.int .i64 31] w1 fun e w' => e = .returned (.int .i64 (shV 31)) ∧ BW w w' := fun w1 h => (sh_any 31 (by decide) w1).mono fun _ _ ⟨he, hb⟩ => ⟨he, h.on hb⟩
  rw [show shV 31 = 0 by decide] at HH
  go_enter Tryd.func29, Tryd.ntmps29
  go_wp2_with (first
    | (go_at_call 19; refine (HS _ (by assumption)).mono ?_; rintro e w' ⟨rfl, hb⟩)
    | (go_at_call 31; refine (HH _ (by assumption)).mono ?_; rintro e w' ⟨rfl, hb⟩))
  go_ret
  exact ⟨ret_int (by decide), by first | assumption | exact BW.new (by assumption) _⟩
theorem fm_32 : FmAt 32 := by
  intro w
  have HS := fun w1 h => sort_bw w w1 h 32 (by decide) (by decide)
  have HB : BW w w := Below.refl _ _
  rw [show srt 32 = 6 by decide] at HS
  have HH : ∀ w1, BW w w1 → Calls Tryd.prog 31 #[.int .i64 32] w1 fun e w' => e = .returned (.int .i64 (shV 32)) ∧ BW w w' := fun w1 h => (sh_any 32 (by decide) w1).mono fun _ _ ⟨he, hb⟩ => ⟨he, h.on hb⟩
  rw [show shV 32 = 5 by decide] at HH
  go_enter Tryd.func29, Tryd.ntmps29
  go_wp2_with (first
    | (go_at_call 19; refine (HS _ (by assumption)).mono ?_; rintro e w' ⟨rfl, hb⟩)
    | (go_at_call 31; refine (HH _ (by assumption)).mono ?_; rintro e w' ⟨rfl, hb⟩))
  go_ret
  exact ⟨ret_int (by decide), by first | assumption | exact BW.new (by assumption) _⟩
theorem fm_33 : FmAt 33 := by
  intro w
  have HS := fun w1 h => sort_bw w w1 h 33 (by decide) (by decide)
  have HB : BW w w := Below.refl _ _
  rw [show srt 33 = 6 by decide] at HS
  have HH : ∀ w1, BW w w1 → Calls Tryd.prog 31 #[.int .i64 33] w1 fun e w' => e = .returned (.int .i64 (shV 33)) ∧ BW w w' := fun w1 h => (sh_any 33 (by decide) w1).mono fun _ _ ⟨he, hb⟩ => ⟨he, h.on hb⟩
  rw [show shV 33 = 5 by decide] at HH
  go_enter Tryd.func29, Tryd.ntmps29
  go_wp2_with (first
    | (go_at_call 19; refine (HS _ (by assumption)).mono ?_; rintro e w' ⟨rfl, hb⟩)
    | (go_at_call 31; refine (HH _ (by assumption)).mono ?_; rintro e w' ⟨rfl, hb⟩))
  go_ret
  exact ⟨ret_int (by decide), by first | assumption | exact BW.new (by assumption) _⟩
theorem fm_34 : FmAt 34 := by
  intro w
  have HS := fun w1 h => sort_bw w w1 h 34 (by decide) (by decide)
  have HB : BW w w := Below.refl _ _
  rw [show srt 34 = 6 by decide] at HS
  have HH : ∀ w1, BW w w1 → Calls Tryd.prog 31 #[.int .i64 34] w1 fun e w' => e = .returned (.int .i64 (shV 34)) ∧ BW w w' := fun w1 h => (sh_any 34 (by decide) w1).mono fun _ _ ⟨he, hb⟩ => ⟨he, h.on hb⟩
  rw [show shV 34 = 5 by decide] at HH
  go_enter Tryd.func29, Tryd.ntmps29
  go_wp2_with (first
    | (go_at_call 19; refine (HS _ (by assumption)).mono ?_; rintro e w' ⟨rfl, hb⟩)
    | (go_at_call 31; refine (HH _ (by assumption)).mono ?_; rintro e w' ⟨rfl, hb⟩))
  go_ret
  exact ⟨ret_int (by decide), by first | assumption | exact BW.new (by assumption) _⟩
theorem fm_35 : FmAt 35 := by
  intro w
  have HS := fun w1 h => sort_bw w w1 h 35 (by decide) (by decide)
  have HB : BW w w := Below.refl _ _
  rw [show srt 35 = 7 by decide] at HS
  have HH : ∀ w1, BW w w1 → Calls Tryd.prog 31 #[.int .i64 35] w1 fun e w' => e = .returned (.int .i64 (shV 35)) ∧ BW w w' := fun w1 h => (sh_any 35 (by decide) w1).mono fun _ _ ⟨he, hb⟩ => ⟨he, h.on hb⟩
  rw [show shV 35 = 0 by decide] at HH
  go_enter Tryd.func29, Tryd.ntmps29
  go_wp2_with (first
    | (go_at_call 19; refine (HS _ (by assumption)).mono ?_; rintro e w' ⟨rfl, hb⟩)
    | (go_at_call 31; refine (HH _ (by assumption)).mono ?_; rintro e w' ⟨rfl, hb⟩))
  go_ret
  exact ⟨ret_int (by decide), by first | assumption | exact BW.new (by assumption) _⟩
theorem fm_36 : FmAt 36 := by
  intro w
  have HS := fun w1 h => sort_bw w w1 h 36 (by decide) (by decide)
  have HB : BW w w := Below.refl _ _
  rw [show srt 36 = 7 by decide] at HS
  have HH : ∀ w1, BW w w1 → Calls Tryd.prog 31 #[.int .i64 36] w1 fun e w' => e = .returned (.int .i64 (shV 36)) ∧ BW w w' := fun w1 h => (sh_any 36 (by decide) w1).mono fun _ _ ⟨he, hb⟩ => ⟨he, h.on hb⟩
  rw [show shV 36 = 0 by decide] at HH
  go_enter Tryd.func29, Tryd.ntmps29
  go_wp2_with (first
    | (go_at_call 19; refine (HS _ (by assumption)).mono ?_; rintro e w' ⟨rfl, hb⟩)
    | (go_at_call 31; refine (HH _ (by assumption)).mono ?_; rintro e w' ⟨rfl, hb⟩))
  go_ret
  exact ⟨ret_int (by decide), by first | assumption | exact BW.new (by assumption) _⟩
theorem fm_37 : FmAt 37 := by
  intro w
  have HS := fun w1 h => sort_bw w w1 h 37 (by decide) (by decide)
  have HB : BW w w := Below.refl _ _
  rw [show srt 37 = 7 by decide] at HS
  have HH : ∀ w1, BW w w1 → Calls Tryd.prog 31 #[.int .i64 37] w1 fun e w' => e = .returned (.int .i64 (shV 37)) ∧ BW w w' := fun w1 h => (sh_any 37 (by decide) w1).mono fun _ _ ⟨he, hb⟩ => ⟨he, h.on hb⟩
  rw [show shV 37 = 0 by decide] at HH
  go_enter Tryd.func29, Tryd.ntmps29
  go_wp2_with (first
    | (go_at_call 19; refine (HS _ (by assumption)).mono ?_; rintro e w' ⟨rfl, hb⟩)
    | (go_at_call 31; refine (HH _ (by assumption)).mono ?_; rintro e w' ⟨rfl, hb⟩))
  go_ret
  exact ⟨ret_int (by decide), by first | assumption | exact BW.new (by assumption) _⟩
theorem fm_38 : FmAt 38 := by
  intro w
  have HS := fun w1 h => sort_bw w w1 h 38 (by decide) (by decide)
  have HB : BW w w := Below.refl _ _
  rw [show srt 38 = 7 by decide] at HS
  have HH : ∀ w1, BW w w1 → Calls Tryd.prog 31 #[.int .i64 38] w1 fun e w' => e = .returned (.int .i64 (shV 38)) ∧ BW w w' := fun w1 h => (sh_any 38 (by decide) w1).mono fun _ _ ⟨he, hb⟩ => ⟨he, h.on hb⟩
  rw [show shV 38 = 0 by decide] at HH
  go_enter Tryd.func29, Tryd.ntmps29
  go_wp2_with (first
    | (go_at_call 19; refine (HS _ (by assumption)).mono ?_; rintro e w' ⟨rfl, hb⟩)
    | (go_at_call 31; refine (HH _ (by assumption)).mono ?_; rintro e w' ⟨rfl, hb⟩))
  go_ret
  exact ⟨ret_int (by decide), by first | assumption | exact BW.new (by assumption) _⟩
theorem fm_39 : FmAt 39 := by
  intro w
  have HS := fun w1 h => sort_bw w w1 h 39 (by decide) (by decide)
  have HB : BW w w := Below.refl _ _
  rw [show srt 39 = 7 by decide] at HS
  have HH : ∀ w1, BW w w1 → Calls Tryd.prog 31 #[.int .i64 39] w1 fun e w' => e = .returned (.int .i64 (shV 39)) ∧ BW w w' := fun w1 h => (sh_any 39 (by decide) w1).mono fun _ _ ⟨he, hb⟩ => ⟨he, h.on hb⟩
  rw [show shV 39 = 0 by decide] at HH
  go_enter Tryd.func29, Tryd.ntmps29
  go_wp2_with (first
    | (go_at_call 19; refine (HS _ (by assumption)).mono ?_; rintro e w' ⟨rfl, hb⟩)
    | (go_at_call 31; refine (HH _ (by assumption)).mono ?_; rintro e w' ⟨rfl, hb⟩))
  go_ret
  exact ⟨ret_int (by decide), by first | assumption | exact BW.new (by assumption) _⟩
theorem fm_40 : FmAt 40 := by
  intro w
  have HS := fun w1 h => sort_bw w w1 h 40 (by decide) (by decide)
  have HB : BW w w := Below.refl _ _
  rw [show srt 40 = 7 by decide] at HS
  have HH : ∀ w1, BW w w1 → Calls Tryd.prog 31 #[.int .i64 40] w1 fun e w' => e = .returned (.int .i64 (shV 40)) ∧ BW w w' := fun w1 h => (sh_any 40 (by decide) w1).mono fun _ _ ⟨he, hb⟩ => ⟨he, h.on hb⟩
  rw [show shV 40 = 0 by decide] at HH
  go_enter Tryd.func29, Tryd.ntmps29
  go_wp2_with (first
    | (go_at_call 19; refine (HS _ (by assumption)).mono ?_; rintro e w' ⟨rfl, hb⟩)
    | (go_at_call 31; refine (HH _ (by assumption)).mono ?_; rintro e w' ⟨rfl, hb⟩))
  go_ret
  exact ⟨ret_int (by decide), by first | assumption | exact BW.new (by assumption) _⟩
theorem fm_41 : FmAt 41 := by
  intro w
  have HS := fun w1 h => sort_bw w w1 h 41 (by decide) (by decide)
  have HB : BW w w := Below.refl _ _
  rw [show srt 41 = 7 by decide] at HS
  have HH : ∀ w1, BW w w1 → Calls Tryd.prog 31 #[.int .i64 41] w1 fun e w' => e = .returned (.int .i64 (shV 41)) ∧ BW w w' := fun w1 h => (sh_any 41 (by decide) w1).mono fun _ _ ⟨he, hb⟩ => ⟨he, h.on hb⟩
  rw [show shV 41 = 0 by decide] at HH
  go_enter Tryd.func29, Tryd.ntmps29
  go_wp2_with (first
    | (go_at_call 19; refine (HS _ (by assumption)).mono ?_; rintro e w' ⟨rfl, hb⟩)
    | (go_at_call 31; refine (HH _ (by assumption)).mono ?_; rintro e w' ⟨rfl, hb⟩))
  go_ret
  exact ⟨ret_int (by decide), by first | assumption | exact BW.new (by assumption) _⟩
theorem fm_42 : FmAt 42 := by
  intro w
  have HS := fun w1 h => sort_bw w w1 h 42 (by decide) (by decide)
  have HB : BW w w := Below.refl _ _
  rw [show srt 42 = 7 by decide] at HS
  have HH : ∀ w1, BW w w1 → Calls Tryd.prog 31 #[.int .i64 42] w1 fun e w' => e = .returned (.int .i64 (shV 42)) ∧ BW w w' := fun w1 h => (sh_any 42 (by decide) w1).mono fun _ _ ⟨he, hb⟩ => ⟨he, h.on hb⟩
  rw [show shV 42 = 0 by decide] at HH
  go_enter Tryd.func29, Tryd.ntmps29
  go_wp2_with (first
    | (go_at_call 19; refine (HS _ (by assumption)).mono ?_; rintro e w' ⟨rfl, hb⟩)
    | (go_at_call 31; refine (HH _ (by assumption)).mono ?_; rintro e w' ⟨rfl, hb⟩))
  go_ret
  exact ⟨ret_int (by decide), by first | assumption | exact BW.new (by assumption) _⟩
theorem fm_43 : FmAt 43 := by
  intro w
  have HS := fun w1 h => sort_bw w w1 h 43 (by decide) (by decide)
  have HB : BW w w := Below.refl _ _
  rw [show srt 43 = 7 by decide] at HS
  have HH : ∀ w1, BW w w1 → Calls Tryd.prog 31 #[.int .i64 43] w1 fun e w' => e = .returned (.int .i64 (shV 43)) ∧ BW w w' := fun w1 h => (sh_any 43 (by decide) w1).mono fun _ _ ⟨he, hb⟩ => ⟨he, h.on hb⟩
  rw [show shV 43 = 0 by decide] at HH
  go_enter Tryd.func29, Tryd.ntmps29
  go_wp2_with (first
    | (go_at_call 19; refine (HS _ (by assumption)).mono ?_; rintro e w' ⟨rfl, hb⟩)
    | (go_at_call 31; refine (HH _ (by assumption)).mono ?_; rintro e w' ⟨rfl, hb⟩))
  go_ret
  exact ⟨ret_int (by decide), by first | assumption | exact BW.new (by assumption) _⟩
theorem fm_44 : FmAt 44 := by
  intro w
  have HS := fun w1 h => sort_bw w w1 h 44 (by decide) (by decide)
  have HB : BW w w := Below.refl _ _
  rw [show srt 44 = 7 by decide] at HS
  have HH : ∀ w1, BW w w1 → Calls Tryd.prog 31 #[.int .i64 44] w1 fun e w' => e = .returned (.int .i64 (shV 44)) ∧ BW w w' := fun w1 h => (sh_any 44 (by decide) w1).mono fun _ _ ⟨he, hb⟩ => ⟨he, h.on hb⟩
  rw [show shV 44 = 0 by decide] at HH
  go_enter Tryd.func29, Tryd.ntmps29
  go_wp2_with (first
    | (go_at_call 19; refine (HS _ (by assumption)).mono ?_; rintro e w' ⟨rfl, hb⟩)
    | (go_at_call 31; refine (HH _ (by assumption)).mono ?_; rintro e w' ⟨rfl, hb⟩))
  go_ret
  exact ⟨ret_int (by decide), by first | assumption | exact BW.new (by assumption) _⟩
theorem fm_45 : FmAt 45 := by
  intro w
  have HS := fun w1 h => sort_bw w w1 h 45 (by decide) (by decide)
  have HB : BW w w := Below.refl _ _
  rw [show srt 45 = 7 by decide] at HS
  have HH : ∀ w1, BW w w1 → Calls Tryd.prog 31 #[.int .i64 45] w1 fun e w' => e = .returned (.int .i64 (shV 45)) ∧ BW w w' := fun w1 h => (sh_any 45 (by decide) w1).mono fun _ _ ⟨he, hb⟩ => ⟨he, h.on hb⟩
  rw [show shV 45 = 0 by decide] at HH
  go_enter Tryd.func29, Tryd.ntmps29
  go_wp2_with (first
    | (go_at_call 19; refine (HS _ (by assumption)).mono ?_; rintro e w' ⟨rfl, hb⟩)
    | (go_at_call 31; refine (HH _ (by assumption)).mono ?_; rintro e w' ⟨rfl, hb⟩))
  go_ret
  exact ⟨ret_int (by decide), by first | assumption | exact BW.new (by assumption) _⟩
theorem fm_46 : FmAt 46 := by
  intro w
  have HS := fun w1 h => sort_bw w w1 h 46 (by decide) (by decide)
  have HB : BW w w := Below.refl _ _
  rw [show srt 46 = 7 by decide] at HS
  have HH : ∀ w1, BW w w1 → Calls Tryd.prog 31 #[.int .i64 46] w1 fun e w' => e = .returned (.int .i64 (shV 46)) ∧ BW w w' := fun w1 h => (sh_any 46 (by decide) w1).mono fun _ _ ⟨he, hb⟩ => ⟨he, h.on hb⟩
  rw [show shV 46 = 0 by decide] at HH
  go_enter Tryd.func29, Tryd.ntmps29
  go_wp2_with (first
    | (go_at_call 19; refine (HS _ (by assumption)).mono ?_; rintro e w' ⟨rfl, hb⟩)
    | (go_at_call 31; refine (HH _ (by assumption)).mono ?_; rintro e w' ⟨rfl, hb⟩))
  go_ret
  exact ⟨ret_int (by decide), by first | assumption | exact BW.new (by assumption) _⟩
theorem fm_47 : FmAt 47 := by
  intro w
  have HS := fun w1 h => sort_bw w w1 h 47 (by decide) (by decide)
  have HB : BW w w := Below.refl _ _
  rw [show srt 47 = 7 by decide] at HS
  have HH : ∀ w1, BW w w1 → Calls Tryd.prog 31 #[.int .i64 47] w1 fun e w' => e = .returned (.int .i64 (shV 47)) ∧ BW w w' := fun w1 h => (sh_any 47 (by decide) w1).mono fun _ _ ⟨he, hb⟩ => ⟨he, h.on hb⟩
  rw [show shV 47 = 0 by decide] at HH
  go_enter Tryd.func29, Tryd.ntmps29
  go_wp2_with (first
    | (go_at_call 19; refine (HS _ (by assumption)).mono ?_; rintro e w' ⟨rfl, hb⟩)
    | (go_at_call 31; refine (HH _ (by assumption)).mono ?_; rintro e w' ⟨rfl, hb⟩))
  go_ret
  exact ⟨ret_int (by decide), by first | assumption | exact BW.new (by assumption) _⟩
theorem fm_48 : FmAt 48 := by
  intro w
  have HS := fun w1 h => sort_bw w w1 h 48 (by decide) (by decide)
  have HB : BW w w := Below.refl _ _
  rw [show srt 48 = 7 by decide] at HS
  have HH : ∀ w1, BW w w1 → Calls Tryd.prog 31 #[.int .i64 48] w1 fun e w' => e = .returned (.int .i64 (shV 48)) ∧ BW w w' := fun w1 h => (sh_any 48 (by decide) w1).mono fun _ _ ⟨he, hb⟩ => ⟨he, h.on hb⟩
  rw [show shV 48 = 0 by decide] at HH
  go_enter Tryd.func29, Tryd.ntmps29
  go_wp2_with (first
    | (go_at_call 19; refine (HS _ (by assumption)).mono ?_; rintro e w' ⟨rfl, hb⟩)
    | (go_at_call 31; refine (HH _ (by assumption)).mono ?_; rintro e w' ⟨rfl, hb⟩))
  go_ret
  exact ⟨ret_int (by decide), by first | assumption | exact BW.new (by assumption) _⟩
theorem fm_49 : FmAt 49 := by
  intro w
  have HS := fun w1 h => sort_bw w w1 h 49 (by decide) (by decide)
  have HB : BW w w := Below.refl _ _
  rw [show srt 49 = 7 by decide] at HS
  have HH : ∀ w1, BW w w1 → Calls Tryd.prog 31 #[.int .i64 49] w1 fun e w' => e = .returned (.int .i64 (shV 49)) ∧ BW w w' := fun w1 h => (sh_any 49 (by decide) w1).mono fun _ _ ⟨he, hb⟩ => ⟨he, h.on hb⟩
  rw [show shV 49 = 0 by decide] at HH
  go_enter Tryd.func29, Tryd.ntmps29
  go_wp2_with (first
    | (go_at_call 19; refine (HS _ (by assumption)).mono ?_; rintro e w' ⟨rfl, hb⟩)
    | (go_at_call 31; refine (HH _ (by assumption)).mono ?_; rintro e w' ⟨rfl, hb⟩))
  go_ret
  exact ⟨ret_int (by decide), by first | assumption | exact BW.new (by assumption) _⟩
theorem fm_50 : FmAt 50 := by
  intro w
  have HS := fun w1 h => sort_bw w w1 h 50 (by decide) (by decide)
  have HB : BW w w := Below.refl _ _
  rw [show srt 50 = 8 by decide] at HS
  have HH : ∀ w1, BW w w1 → Calls Tryd.prog 31 #[.int .i64 50] w1 fun e w' => e = .returned (.int .i64 (shV 50)) ∧ BW w w' := fun w1 h => (sh_any 50 (by decide) w1).mono fun _ _ ⟨he, hb⟩ => ⟨he, h.on hb⟩
  rw [show shV 50 = 0 by decide] at HH
  go_enter Tryd.func29, Tryd.ntmps29
  go_wp2_with (first
    | (go_at_call 19; refine (HS _ (by assumption)).mono ?_; rintro e w' ⟨rfl, hb⟩)
    | (go_at_call 31; refine (HH _ (by assumption)).mono ?_; rintro e w' ⟨rfl, hb⟩))
  go_ret
  exact ⟨ret_int (by decide), by first | assumption | exact BW.new (by assumption) _⟩
theorem fm_51 : FmAt 51 := by
  intro w
  have HS := fun w1 h => sort_bw w w1 h 51 (by decide) (by decide)
  have HB : BW w w := Below.refl _ _
  rw [show srt 51 = 8 by decide] at HS
  have HH : ∀ w1, BW w w1 → Calls Tryd.prog 31 #[.int .i64 51] w1 fun e w' => e = .returned (.int .i64 (shV 51)) ∧ BW w w' := fun w1 h => (sh_any 51 (by decide) w1).mono fun _ _ ⟨he, hb⟩ => ⟨he, h.on hb⟩
  rw [show shV 51 = 0 by decide] at HH
  go_enter Tryd.func29, Tryd.ntmps29
  go_wp2_with (first
    | (go_at_call 19; refine (HS _ (by assumption)).mono ?_; rintro e w' ⟨rfl, hb⟩)
    | (go_at_call 31; refine (HH _ (by assumption)).mono ?_; rintro e w' ⟨rfl, hb⟩))
  go_ret
  exact ⟨ret_int (by decide), by first | assumption | exact BW.new (by assumption) _⟩
theorem fm_52 : FmAt 52 := by
  intro w
  have HS := fun w1 h => sort_bw w w1 h 52 (by decide) (by decide)
  have HB : BW w w := Below.refl _ _
  rw [show srt 52 = 9 by decide] at HS
  have HH : ∀ w1, BW w w1 → Calls Tryd.prog 31 #[.int .i64 52] w1 fun e w' => e = .returned (.int .i64 (shV 52)) ∧ BW w w' := fun w1 h => (sh_any 52 (by decide) w1).mono fun _ _ ⟨he, hb⟩ => ⟨he, h.on hb⟩
  rw [show shV 52 = 0 by decide] at HH
  go_enter Tryd.func29, Tryd.ntmps29
  go_wp2_with (first
    | (go_at_call 19; refine (HS _ (by assumption)).mono ?_; rintro e w' ⟨rfl, hb⟩)
    | (go_at_call 31; refine (HH _ (by assumption)).mono ?_; rintro e w' ⟨rfl, hb⟩))
  go_ret
  exact ⟨ret_int (by decide), by first | assumption | exact BW.new (by assumption) _⟩
theorem fm_53 : FmAt 53 := by
  intro w
  have HS := fun w1 h => sort_bw w w1 h 53 (by decide) (by decide)
  have HB : BW w w := Below.refl _ _
  rw [show srt 53 = 9 by decide] at HS
  have HH : ∀ w1, BW w w1 → Calls Tryd.prog 31 #[.int .i64 53] w1 fun e w' => e = .returned (.int .i64 (shV 53)) ∧ BW w w' := fun w1 h => (sh_any 53 (by decide) w1).mono fun _ _ ⟨he, hb⟩ => ⟨he, h.on hb⟩
  rw [show shV 53 = 0 by decide] at HH
  go_enter Tryd.func29, Tryd.ntmps29
  go_wp2_with (first
    | (go_at_call 19; refine (HS _ (by assumption)).mono ?_; rintro e w' ⟨rfl, hb⟩)
    | (go_at_call 31; refine (HH _ (by assumption)).mono ?_; rintro e w' ⟨rfl, hb⟩))
  go_ret
  exact ⟨ret_int (by decide), by first | assumption | exact BW.new (by assumption) _⟩
theorem fm_54 : FmAt 54 := by
  intro w
  have HS := fun w1 h => sort_bw w w1 h 54 (by decide) (by decide)
  have HB : BW w w := Below.refl _ _
  rw [show srt 54 = 10 by decide] at HS
  have HH : ∀ w1, BW w w1 → Calls Tryd.prog 31 #[.int .i64 54] w1 fun e w' => e = .returned (.int .i64 (shV 54)) ∧ BW w w' := fun w1 h => (sh_any 54 (by decide) w1).mono fun _ _ ⟨he, hb⟩ => ⟨he, h.on hb⟩
  rw [show shV 54 = 0 by decide] at HH
  go_enter Tryd.func29, Tryd.ntmps29
  go_wp2_with (first
    | (go_at_call 19; refine (HS _ (by assumption)).mono ?_; rintro e w' ⟨rfl, hb⟩)
    | (go_at_call 31; refine (HH _ (by assumption)).mono ?_; rintro e w' ⟨rfl, hb⟩))
  go_ret
  exact ⟨ret_int (by decide), by first | assumption | exact BW.new (by assumption) _⟩
theorem fm_55 : FmAt 55 := by
  intro w
  have HS := fun w1 h => sort_bw w w1 h 55 (by decide) (by decide)
  have HB : BW w w := Below.refl _ _
  rw [show srt 55 = 10 by decide] at HS
  have HH : ∀ w1, BW w w1 → Calls Tryd.prog 31 #[.int .i64 55] w1 fun e w' => e = .returned (.int .i64 (shV 55)) ∧ BW w w' := fun w1 h => (sh_any 55 (by decide) w1).mono fun _ _ ⟨he, hb⟩ => ⟨he, h.on hb⟩
  rw [show shV 55 = 0 by decide] at HH
  go_enter Tryd.func29, Tryd.ntmps29
  go_wp2_with (first
    | (go_at_call 19; refine (HS _ (by assumption)).mono ?_; rintro e w' ⟨rfl, hb⟩)
    | (go_at_call 31; refine (HH _ (by assumption)).mono ?_; rintro e w' ⟨rfl, hb⟩))
  go_ret
  exact ⟨ret_int (by decide), by first | assumption | exact BW.new (by assumption) _⟩
theorem fm_56 : FmAt 56 := by
  intro w
  have HS := fun w1 h => sort_bw w w1 h 56 (by decide) (by decide)
  have HB : BW w w := Below.refl _ _
  rw [show srt 56 = 11 by decide] at HS
  have HH : ∀ w1, BW w w1 → Calls Tryd.prog 31 #[.int .i64 56] w1 fun e w' => e = .returned (.int .i64 (shV 56)) ∧ BW w w' := fun w1 h => (sh_any 56 (by decide) w1).mono fun _ _ ⟨he, hb⟩ => ⟨he, h.on hb⟩
  rw [show shV 56 = 0 by decide] at HH
  go_enter Tryd.func29, Tryd.ntmps29
  go_wp2_with (first
    | (go_at_call 19; refine (HS _ (by assumption)).mono ?_; rintro e w' ⟨rfl, hb⟩)
    | (go_at_call 31; refine (HH _ (by assumption)).mono ?_; rintro e w' ⟨rfl, hb⟩))
  go_ret
  exact ⟨ret_int (by decide), by first | assumption | exact BW.new (by assumption) _⟩
theorem fm_57 : FmAt 57 := by
  intro w
  have HS := fun w1 h => sort_bw w w1 h 57 (by decide) (by decide)
  have HB : BW w w := Below.refl _ _
  rw [show srt 57 = 11 by decide] at HS
  have HH : ∀ w1, BW w w1 → Calls Tryd.prog 31 #[.int .i64 57] w1 fun e w' => e = .returned (.int .i64 (shV 57)) ∧ BW w w' := fun w1 h => (sh_any 57 (by decide) w1).mono fun _ _ ⟨he, hb⟩ => ⟨he, h.on hb⟩
  rw [show shV 57 = 0 by decide] at HH
  go_enter Tryd.func29, Tryd.ntmps29
  go_wp2_with (first
    | (go_at_call 19; refine (HS _ (by assumption)).mono ?_; rintro e w' ⟨rfl, hb⟩)
    | (go_at_call 31; refine (HH _ (by assumption)).mono ?_; rintro e w' ⟨rfl, hb⟩))
  go_ret
  exact ⟨ret_int (by decide), by first | assumption | exact BW.new (by assumption) _⟩
theorem fm_58 : FmAt 58 := by
  intro w
  have HS := fun w1 h => sort_bw w w1 h 58 (by decide) (by decide)
  have HB : BW w w := Below.refl _ _
  rw [show srt 58 = 12 by decide] at HS
  have HH : ∀ w1, BW w w1 → Calls Tryd.prog 31 #[.int .i64 58] w1 fun e w' => e = .returned (.int .i64 (shV 58)) ∧ BW w w' := fun w1 h => (sh_any 58 (by decide) w1).mono fun _ _ ⟨he, hb⟩ => ⟨he, h.on hb⟩
  rw [show shV 58 = 0 by decide] at HH
  go_enter Tryd.func29, Tryd.ntmps29
  go_wp2_with (first
    | (go_at_call 19; refine (HS _ (by assumption)).mono ?_; rintro e w' ⟨rfl, hb⟩)
    | (go_at_call 31; refine (HH _ (by assumption)).mono ?_; rintro e w' ⟨rfl, hb⟩))
  go_ret
  exact ⟨ret_int (by decide), by first | assumption | exact BW.new (by assumption) _⟩
theorem fm_59 : FmAt 59 := by
  intro w
  have HS := fun w1 h => sort_bw w w1 h 59 (by decide) (by decide)
  have HB : BW w w := Below.refl _ _
  rw [show srt 59 = 12 by decide] at HS
  have HH : ∀ w1, BW w w1 → Calls Tryd.prog 31 #[.int .i64 59] w1 fun e w' => e = .returned (.int .i64 (shV 59)) ∧ BW w w' := fun w1 h => (sh_any 59 (by decide) w1).mono fun _ _ ⟨he, hb⟩ => ⟨he, h.on hb⟩
  rw [show shV 59 = 0 by decide] at HH
  go_enter Tryd.func29, Tryd.ntmps29
  go_wp2_with (first
    | (go_at_call 19; refine (HS _ (by assumption)).mono ?_; rintro e w' ⟨rfl, hb⟩)
    | (go_at_call 31; refine (HH _ (by assumption)).mono ?_; rintro e w' ⟨rfl, hb⟩))
  go_ret
  exact ⟨ret_int (by decide), by first | assumption | exact BW.new (by assumption) _⟩
theorem fm_60 : FmAt 60 := by
  intro w
  have HS := fun w1 h => sort_bw w w1 h 60 (by decide) (by decide)
  have HB : BW w w := Below.refl _ _
  rw [show srt 60 = 12 by decide] at HS
  have HH : ∀ w1, BW w w1 → Calls Tryd.prog 31 #[.int .i64 60] w1 fun e w' => e = .returned (.int .i64 (shV 60)) ∧ BW w w' := fun w1 h => (sh_any 60 (by decide) w1).mono fun _ _ ⟨he, hb⟩ => ⟨he, h.on hb⟩
  rw [show shV 60 = 0 by decide] at HH
  go_enter Tryd.func29, Tryd.ntmps29
  go_wp2_with (first
    | (go_at_call 19; refine (HS _ (by assumption)).mono ?_; rintro e w' ⟨rfl, hb⟩)
    | (go_at_call 31; refine (HH _ (by assumption)).mono ?_; rintro e w' ⟨rfl, hb⟩))
  go_ret
  exact ⟨ret_int (by decide), by first | assumption | exact BW.new (by assumption) _⟩
theorem fm_61 : FmAt 61 := by
  intro w
  have HS := fun w1 h => sort_bw w w1 h 61 (by decide) (by decide)
  have HB : BW w w := Below.refl _ _
  rw [show srt 61 = 12 by decide] at HS
  have HH : ∀ w1, BW w w1 → Calls Tryd.prog 31 #[.int .i64 61] w1 fun e w' => e = .returned (.int .i64 (shV 61)) ∧ BW w w' := fun w1 h => (sh_any 61 (by decide) w1).mono fun _ _ ⟨he, hb⟩ => ⟨he, h.on hb⟩
  rw [show shV 61 = 0 by decide] at HH
  go_enter Tryd.func29, Tryd.ntmps29
  go_wp2_with (first
    | (go_at_call 19; refine (HS _ (by assumption)).mono ?_; rintro e w' ⟨rfl, hb⟩)
    | (go_at_call 31; refine (HH _ (by assumption)).mono ?_; rintro e w' ⟨rfl, hb⟩))
  go_ret
  exact ⟨ret_int (by decide), by first | assumption | exact BW.new (by assumption) _⟩
theorem fm_62 : FmAt 62 := by
  intro w
  have HS := fun w1 h => sort_bw w w1 h 62 (by decide) (by decide)
  have HB : BW w w := Below.refl _ _
  rw [show srt 62 = 12 by decide] at HS
  have HH : ∀ w1, BW w w1 → Calls Tryd.prog 31 #[.int .i64 62] w1 fun e w' => e = .returned (.int .i64 (shV 62)) ∧ BW w w' := fun w1 h => (sh_any 62 (by decide) w1).mono fun _ _ ⟨he, hb⟩ => ⟨he, h.on hb⟩
  rw [show shV 62 = 0 by decide] at HH
  go_enter Tryd.func29, Tryd.ntmps29
  go_wp2_with (first
    | (go_at_call 19; refine (HS _ (by assumption)).mono ?_; rintro e w' ⟨rfl, hb⟩)
    | (go_at_call 31; refine (HH _ (by assumption)).mono ?_; rintro e w' ⟨rfl, hb⟩))
  go_ret
  exact ⟨ret_int (by decide), by first | assumption | exact BW.new (by assumption) _⟩
theorem fm_63 : FmAt 63 := by
  intro w
  have HS := fun w1 h => sort_bw w w1 h 63 (by decide) (by decide)
  have HB : BW w w := Below.refl _ _
  rw [show srt 63 = 12 by decide] at HS
  have HH : ∀ w1, BW w w1 → Calls Tryd.prog 31 #[.int .i64 63] w1 fun e w' => e = .returned (.int .i64 (shV 63)) ∧ BW w w' := fun w1 h => (sh_any 63 (by decide) w1).mono fun _ _ ⟨he, hb⟩ => ⟨he, h.on hb⟩
  rw [show shV 63 = 0 by decide] at HH
  go_enter Tryd.func29, Tryd.ntmps29
  go_wp2_with (first
    | (go_at_call 19; refine (HS _ (by assumption)).mono ?_; rintro e w' ⟨rfl, hb⟩)
    | (go_at_call 31; refine (HH _ (by assumption)).mono ?_; rintro e w' ⟨rfl, hb⟩))
  go_ret
  exact ⟨ret_int (by decide), by first | assumption | exact BW.new (by assumption) _⟩
theorem fm_64 : FmAt 64 := by
  intro w
  have HS := fun w1 h => sort_bw w w1 h 64 (by decide) (by decide)
  have HB : BW w w := Below.refl _ _
  rw [show srt 64 = 12 by decide] at HS
  have HH : ∀ w1, BW w w1 → Calls Tryd.prog 31 #[.int .i64 64] w1 fun e w' => e = .returned (.int .i64 (shV 64)) ∧ BW w w' := fun w1 h => (sh_any 64 (by decide) w1).mono fun _ _ ⟨he, hb⟩ => ⟨he, h.on hb⟩
  rw [show shV 64 = 0 by decide] at HH
  go_enter Tryd.func29, Tryd.ntmps29
  go_wp2_with (first
    | (go_at_call 19; refine (HS _ (by assumption)).mono ?_; rintro e w' ⟨rfl, hb⟩)
    | (go_at_call 31; refine (HH _ (by assumption)).mono ?_; rintro e w' ⟨rfl, hb⟩))
  go_ret
  exact ⟨ret_int (by decide), by first | assumption | exact BW.new (by assumption) _⟩
theorem fm_65 : FmAt 65 := by
  intro w
  have HS := fun w1 h => sort_bw w w1 h 65 (by decide) (by decide)
  have HB : BW w w := Below.refl _ _
  rw [show srt 65 = 12 by decide] at HS
  have HH : ∀ w1, BW w w1 → Calls Tryd.prog 31 #[.int .i64 65] w1 fun e w' => e = .returned (.int .i64 (shV 65)) ∧ BW w w' := fun w1 h => (sh_any 65 (by decide) w1).mono fun _ _ ⟨he, hb⟩ => ⟨he, h.on hb⟩
  rw [show shV 65 = 0 by decide] at HH
  go_enter Tryd.func29, Tryd.ntmps29
  go_wp2_with (first
    | (go_at_call 19; refine (HS _ (by assumption)).mono ?_; rintro e w' ⟨rfl, hb⟩)
    | (go_at_call 31; refine (HH _ (by assumption)).mono ?_; rintro e w' ⟨rfl, hb⟩))
  go_ret
  exact ⟨ret_int (by decide), by first | assumption | exact BW.new (by assumption) _⟩
theorem fm_66 : FmAt 66 := by
  intro w
  have HS := fun w1 h => sort_bw w w1 h 66 (by decide) (by decide)
  have HB : BW w w := Below.refl _ _
  rw [show srt 66 = 12 by decide] at HS
  have HH : ∀ w1, BW w w1 → Calls Tryd.prog 31 #[.int .i64 66] w1 fun e w' => e = .returned (.int .i64 (shV 66)) ∧ BW w w' := fun w1 h => (sh_any 66 (by decide) w1).mono fun _ _ ⟨he, hb⟩ => ⟨he, h.on hb⟩
  rw [show shV 66 = 0 by decide] at HH
  go_enter Tryd.func29, Tryd.ntmps29
  go_wp2_with (first
    | (go_at_call 19; refine (HS _ (by assumption)).mono ?_; rintro e w' ⟨rfl, hb⟩)
    | (go_at_call 31; refine (HH _ (by assumption)).mono ?_; rintro e w' ⟨rfl, hb⟩))
  go_ret
  exact ⟨ret_int (by decide), by first | assumption | exact BW.new (by assumption) _⟩
theorem fm_67 : FmAt 67 := by
  intro w
  have HS := fun w1 h => sort_bw w w1 h 67 (by decide) (by decide)
  have HB : BW w w := Below.refl _ _
  rw [show srt 67 = 12 by decide] at HS
  have HH : ∀ w1, BW w w1 → Calls Tryd.prog 31 #[.int .i64 67] w1 fun e w' => e = .returned (.int .i64 (shV 67)) ∧ BW w w' := fun w1 h => (sh_any 67 (by decide) w1).mono fun _ _ ⟨he, hb⟩ => ⟨he, h.on hb⟩
  rw [show shV 67 = 0 by decide] at HH
  go_enter Tryd.func29, Tryd.ntmps29
  go_wp2_with (first
    | (go_at_call 19; refine (HS _ (by assumption)).mono ?_; rintro e w' ⟨rfl, hb⟩)
    | (go_at_call 31; refine (HH _ (by assumption)).mono ?_; rintro e w' ⟨rfl, hb⟩))
  go_ret
  exact ⟨ret_int (by decide), by first | assumption | exact BW.new (by assumption) _⟩
theorem fm_68 : FmAt 68 := by
  intro w
  have HS := fun w1 h => sort_bw w w1 h 68 (by decide) (by decide)
  have HB : BW w w := Below.refl _ _
  rw [show srt 68 = 12 by decide] at HS
  have HH : ∀ w1, BW w w1 → Calls Tryd.prog 31 #[.int .i64 68] w1 fun e w' => e = .returned (.int .i64 (shV 68)) ∧ BW w w' := fun w1 h => (sh_any 68 (by decide) w1).mono fun _ _ ⟨he, hb⟩ => ⟨he, h.on hb⟩
  rw [show shV 68 = 0 by decide] at HH
  go_enter Tryd.func29, Tryd.ntmps29
  go_wp2_with (first
    | (go_at_call 19; refine (HS _ (by assumption)).mono ?_; rintro e w' ⟨rfl, hb⟩)
    | (go_at_call 31; refine (HH _ (by assumption)).mono ?_; rintro e w' ⟨rfl, hb⟩))
  go_ret
  exact ⟨ret_int (by decide), by first | assumption | exact BW.new (by assumption) _⟩
theorem fm_69 : FmAt 69 := by
  intro w
  have HS := fun w1 h => sort_bw w w1 h 69 (by decide) (by decide)
  have HB : BW w w := Below.refl _ _
  rw [show srt 69 = 12 by decide] at HS
  have HH : ∀ w1, BW w w1 → Calls Tryd.prog 31 #[.int .i64 69] w1 fun e w' => e = .returned (.int .i64 (shV 69)) ∧ BW w w' := fun w1 h => (sh_any 69 (by decide) w1).mono fun _ _ ⟨he, hb⟩ => ⟨he, h.on hb⟩
  rw [show shV 69 = 0 by decide] at HH
  go_enter Tryd.func29, Tryd.ntmps29
  go_wp2_with (first
    | (go_at_call 19; refine (HS _ (by assumption)).mono ?_; rintro e w' ⟨rfl, hb⟩)
    | (go_at_call 31; refine (HH _ (by assumption)).mono ?_; rintro e w' ⟨rfl, hb⟩))
  go_ret
  exact ⟨ret_int (by decide), by first | assumption | exact BW.new (by assumption) _⟩
theorem fm_70 : FmAt 70 := by
  intro w
  have HS := fun w1 h => sort_bw w w1 h 70 (by decide) (by decide)
  have HB : BW w w := Below.refl _ _
  rw [show srt 70 = 12 by decide] at HS
  have HH : ∀ w1, BW w w1 → Calls Tryd.prog 31 #[.int .i64 70] w1 fun e w' => e = .returned (.int .i64 (shV 70)) ∧ BW w w' := fun w1 h => (sh_any 70 (by decide) w1).mono fun _ _ ⟨he, hb⟩ => ⟨he, h.on hb⟩
  rw [show shV 70 = 0 by decide] at HH
  go_enter Tryd.func29, Tryd.ntmps29
  go_wp2_with (first
    | (go_at_call 19; refine (HS _ (by assumption)).mono ?_; rintro e w' ⟨rfl, hb⟩)
    | (go_at_call 31; refine (HH _ (by assumption)).mono ?_; rintro e w' ⟨rfl, hb⟩))
  go_ret
  exact ⟨ret_int (by decide), by first | assumption | exact BW.new (by assumption) _⟩
theorem fm_71 : FmAt 71 := by
  intro w
  have HS := fun w1 h => sort_bw w w1 h 71 (by decide) (by decide)
  have HB : BW w w := Below.refl _ _
  rw [show srt 71 = 12 by decide] at HS
  have HH : ∀ w1, BW w w1 → Calls Tryd.prog 31 #[.int .i64 71] w1 fun e w' => e = .returned (.int .i64 (shV 71)) ∧ BW w w' := fun w1 h => (sh_any 71 (by decide) w1).mono fun _ _ ⟨he, hb⟩ => ⟨he, h.on hb⟩
  rw [show shV 71 = 0 by decide] at HH
  go_enter Tryd.func29, Tryd.ntmps29
  go_wp2_with (first
    | (go_at_call 19; refine (HS _ (by assumption)).mono ?_; rintro e w' ⟨rfl, hb⟩)
    | (go_at_call 31; refine (HH _ (by assumption)).mono ?_; rintro e w' ⟨rfl, hb⟩))
  go_ret
  exact ⟨ret_int (by decide), by first | assumption | exact BW.new (by assumption) _⟩
theorem fm_72 : FmAt 72 := by
  intro w
  have HS := fun w1 h => sort_bw w w1 h 72 (by decide) (by decide)
  have HB : BW w w := Below.refl _ _
  rw [show srt 72 = 12 by decide] at HS
  have HH : ∀ w1, BW w w1 → Calls Tryd.prog 31 #[.int .i64 72] w1 fun e w' => e = .returned (.int .i64 (shV 72)) ∧ BW w w' := fun w1 h => (sh_any 72 (by decide) w1).mono fun _ _ ⟨he, hb⟩ => ⟨he, h.on hb⟩
  rw [show shV 72 = 0 by decide] at HH
  go_enter Tryd.func29, Tryd.ntmps29
  go_wp2_with (first
    | (go_at_call 19; refine (HS _ (by assumption)).mono ?_; rintro e w' ⟨rfl, hb⟩)
    | (go_at_call 31; refine (HH _ (by assumption)).mono ?_; rintro e w' ⟨rfl, hb⟩))
  go_ret
  exact ⟨ret_int (by decide), by first | assumption | exact BW.new (by assumption) _⟩
theorem fm_73 : FmAt 73 := by
  intro w
  have HS := fun w1 h => sort_bw w w1 h 73 (by decide) (by decide)
  have HB : BW w w := Below.refl _ _
  rw [show srt 73 = 12 by decide] at HS
  have HH : ∀ w1, BW w w1 → Calls Tryd.prog 31 #[.int .i64 73] w1 fun e w' => e = .returned (.int .i64 (shV 73)) ∧ BW w w' := fun w1 h => (sh_any 73 (by decide) w1).mono fun _ _ ⟨he, hb⟩ => ⟨he, h.on hb⟩
  rw [show shV 73 = 0 by decide] at HH
  go_enter Tryd.func29, Tryd.ntmps29
  go_wp2_with (first
    | (go_at_call 19; refine (HS _ (by assumption)).mono ?_; rintro e w' ⟨rfl, hb⟩)
    | (go_at_call 31; refine (HH _ (by assumption)).mono ?_; rintro e w' ⟨rfl, hb⟩))
  go_ret
  exact ⟨ret_int (by decide), by first | assumption | exact BW.new (by assumption) _⟩
theorem fm_74 : FmAt 74 := by
  intro w
  have HS := fun w1 h => sort_bw w w1 h 74 (by decide) (by decide)
  have HB : BW w w := Below.refl _ _
  rw [show srt 74 = 12 by decide] at HS
  have HH : ∀ w1, BW w w1 → Calls Tryd.prog 31 #[.int .i64 74] w1 fun e w' => e = .returned (.int .i64 (shV 74)) ∧ BW w w' := fun w1 h => (sh_any 74 (by decide) w1).mono fun _ _ ⟨he, hb⟩ => ⟨he, h.on hb⟩
  rw [show shV 74 = 0 by decide] at HH
  go_enter Tryd.func29, Tryd.ntmps29
  go_wp2_with (first
    | (go_at_call 19; refine (HS _ (by assumption)).mono ?_; rintro e w' ⟨rfl, hb⟩)
    | (go_at_call 31; refine (HH _ (by assumption)).mono ?_; rintro e w' ⟨rfl, hb⟩))
  go_ret
  exact ⟨ret_int (by decide), by first | assumption | exact BW.new (by assumption) _⟩
theorem fm_75 : FmAt 75 := by
  intro w
  have HS := fun w1 h => sort_bw w w1 h 75 (by decide) (by decide)
  have HB : BW w w := Below.refl _ _
  rw [show srt 75 = 12 by decide] at HS
  have HH : ∀ w1, BW w w1 → Calls Tryd.prog 31 #[.int .i64 75] w1 fun e w' => e = .returned (.int .i64 (shV 75)) ∧ BW w w' := fun w1 h => (sh_any 75 (by decide) w1).mono fun _ _ ⟨he, hb⟩ => ⟨he, h.on hb⟩
  rw [show shV 75 = 0 by decide] at HH
  go_enter Tryd.func29, Tryd.ntmps29
  go_wp2_with (first
    | (go_at_call 19; refine (HS _ (by assumption)).mono ?_; rintro e w' ⟨rfl, hb⟩)
    | (go_at_call 31; refine (HH _ (by assumption)).mono ?_; rintro e w' ⟨rfl, hb⟩))
  go_ret
  exact ⟨ret_int (by decide), by first | assumption | exact BW.new (by assumption) _⟩
theorem fv_54 : FvAt 54 := by
  intro w
  go_enter Tryd.func50, Tryd.ntmps50
  go_wp2
  go_ret
  exact ⟨ret_int (by decide), by first | exact Below.refl _ _ | exact BW.new (Below.refl _ _) _⟩
theorem fv_55 : FvAt 55 := by
  intro w
  go_enter Tryd.func50, Tryd.ntmps50
  go_wp2
  go_ret
  exact ⟨ret_int (by decide), by first | exact Below.refl _ _ | exact BW.new (Below.refl _ _) _⟩
theorem fv_56 : FvAt 56 := by
  intro w
  go_enter Tryd.func50, Tryd.ntmps50
  go_wp2
  go_ret
  exact ⟨ret_int (by decide), by first | exact Below.refl _ _ | exact BW.new (Below.refl _ _) _⟩
theorem fv_57 : FvAt 57 := by
  intro w
  go_enter Tryd.func50, Tryd.ntmps50
  go_wp2
  go_ret
  exact ⟨ret_int (by decide), by first | exact Below.refl _ _ | exact BW.new (Below.refl _ _) _⟩
theorem fv_58 : FvAt 58 := by
  intro w
  go_enter Tryd.func50, Tryd.ntmps50
  go_wp2
  go_ret
  exact ⟨ret_int (by decide), by first | exact Below.refl _ _ | exact BW.new (Below.refl _ _) _⟩
theorem fv_59 : FvAt 59 := by
  intro w
  go_enter Tryd.func50, Tryd.ntmps50
  go_wp2
  go_ret
  exact ⟨ret_int (by decide), by first | exact Below.refl _ _ | exact BW.new (Below.refl _ _) _⟩
theorem fv_60 : FvAt 60 := by
  intro w
  go_enter Tryd.func50, Tryd.ntmps50
  go_wp2
  go_ret
  exact ⟨ret_int (by decide), by first | exact Below.refl _ _ | exact BW.new (Below.refl _ _) _⟩
theorem fv_61 : FvAt 61 := by
  intro w
  go_enter Tryd.func50, Tryd.ntmps50
  go_wp2
  go_ret
  exact ⟨ret_int (by decide), by first | exact Below.refl _ _ | exact BW.new (Below.refl _ _) _⟩
theorem fv_62 : FvAt 62 := by
  intro w
  go_enter Tryd.func50, Tryd.ntmps50
  go_wp2
  go_ret
  exact ⟨ret_int (by decide), by first | exact Below.refl _ _ | exact BW.new (Below.refl _ _) _⟩
theorem fv_63 : FvAt 63 := by
  intro w
  go_enter Tryd.func50, Tryd.ntmps50
  go_wp2
  go_ret
  exact ⟨ret_int (by decide), by first | exact Below.refl _ _ | exact BW.new (Below.refl _ _) _⟩
theorem fv_64 : FvAt 64 := by
  intro w
  go_enter Tryd.func50, Tryd.ntmps50
  go_wp2
  go_ret
  exact ⟨ret_int (by decide), by first | exact Below.refl _ _ | exact BW.new (Below.refl _ _) _⟩
theorem fv_65 : FvAt 65 := by
  intro w
  go_enter Tryd.func50, Tryd.ntmps50
  go_wp2
  go_ret
  exact ⟨ret_int (by decide), by first | exact Below.refl _ _ | exact BW.new (Below.refl _ _) _⟩
theorem fv_66 : FvAt 66 := by
  intro w
  go_enter Tryd.func50, Tryd.ntmps50
  go_wp2
  go_ret
  exact ⟨ret_int (by decide), by first | exact Below.refl _ _ | exact BW.new (Below.refl _ _) _⟩
theorem fv_67 : FvAt 67 := by
  intro w
  go_enter Tryd.func50, Tryd.ntmps50
  go_wp2
  go_ret
  exact ⟨ret_int (by decide), by first | exact Below.refl _ _ | exact BW.new (Below.refl _ _) _⟩
theorem fv_68 : FvAt 68 := by
  intro w
  go_enter Tryd.func50, Tryd.ntmps50
  go_wp2
  go_ret
  exact ⟨ret_int (by decide), by first | exact Below.refl _ _ | exact BW.new (Below.refl _ _) _⟩
theorem fv_69 : FvAt 69 := by
  intro w
  go_enter Tryd.func50, Tryd.ntmps50
  go_wp2
  go_ret
  exact ⟨ret_int (by decide), by first | exact Below.refl _ _ | exact BW.new (Below.refl _ _) _⟩
theorem fv_70 : FvAt 70 := by
  intro w
  go_enter Tryd.func50, Tryd.ntmps50
  go_wp2
  go_ret
  exact ⟨ret_int (by decide), by first | exact Below.refl _ _ | exact BW.new (Below.refl _ _) _⟩
theorem fv_71 : FvAt 71 := by
  intro w
  go_enter Tryd.func50, Tryd.ntmps50
  go_wp2
  go_ret
  exact ⟨ret_int (by decide), by first | exact Below.refl _ _ | exact BW.new (Below.refl _ _) _⟩
theorem fv_72 : FvAt 72 := by
  intro w
  go_enter Tryd.func50, Tryd.ntmps50
  go_wp2
  go_ret
  exact ⟨ret_int (by decide), by first | exact Below.refl _ _ | exact BW.new (Below.refl _ _) _⟩
theorem fv_73 : FvAt 73 := by
  intro w
  go_enter Tryd.func50, Tryd.ntmps50
  go_wp2
  go_ret
  exact ⟨ret_int (by decide), by first | exact Below.refl _ _ | exact BW.new (Below.refl _ _) _⟩
theorem fv_74 : FvAt 74 := by
  intro w
  go_enter Tryd.func50, Tryd.ntmps50
  go_wp2
  go_ret
  exact ⟨ret_int (by decide), by first | exact Below.refl _ _ | exact BW.new (Below.refl _ _) _⟩
theorem fv_75 : FvAt 75 := by
  intro w
  go_enter Tryd.func50, Tryd.ntmps50
  go_wp2
  go_ret
  exact ⟨ret_int (by decide), by first | exact Below.refl _ _ | exact BW.new (Below.refl _ _) _⟩
theorem fm_any (op : Int) (h : 1 ≤ op ∧ op ≤ 75) : FmAt op := by
  have hc : op = 1 ∨ op = 2 ∨ op = 3 ∨ op = 4 ∨ op = 5 ∨ op = 6 ∨ op = 7 ∨ op = 8 ∨ op = 9 ∨ op = 10 ∨ op = 11 ∨ op = 12 ∨ op = 13 ∨ op = 14 ∨ op = 15 ∨ op = 16 ∨ op = 17 ∨ op = 18 ∨ op = 19 ∨ op = 20 ∨ op = 21 ∨ op = 22 ∨ op = 23 ∨ op = 24 ∨ op = 25 ∨ op = 26 ∨ op = 27 ∨ op = 28 ∨ op = 29 ∨ op = 30 ∨ op = 31 ∨ op = 32 ∨ op = 33 ∨ op = 34 ∨ op = 35 ∨ op = 36 ∨ op = 37 ∨ op = 38 ∨ op = 39 ∨ op = 40 ∨ op = 41 ∨ op = 42 ∨ op = 43 ∨ op = 44 ∨ op = 45 ∨ op = 46 ∨ op = 47 ∨ op = 48 ∨ op = 49 ∨ op = 50 ∨ op = 51 ∨ op = 52 ∨ op = 53 ∨ op = 54 ∨ op = 55 ∨ op = 56 ∨ op = 57 ∨ op = 58 ∨ op = 59 ∨ op = 60 ∨ op = 61 ∨ op = 62 ∨ op = 63 ∨ op = 64 ∨ op = 65 ∨ op = 66 ∨ op = 67 ∨ op = 68 ∨ op = 69 ∨ op = 70 ∨ op = 71 ∨ op = 72 ∨ op = 73 ∨ op = 74 ∨ op = 75 := by omega
  rcases hc with rfl | rfl | rfl | rfl | rfl | rfl | rfl | rfl | rfl | rfl | rfl | rfl | rfl | rfl | rfl | rfl | rfl | rfl | rfl | rfl | rfl | rfl | rfl | rfl | rfl | rfl | rfl | rfl | rfl | rfl | rfl | rfl | rfl | rfl | rfl | rfl | rfl | rfl | rfl | rfl | rfl | rfl | rfl | rfl | rfl | rfl | rfl | rfl | rfl | rfl | rfl | rfl | rfl | rfl | rfl | rfl | rfl | rfl | rfl | rfl | rfl | rfl | rfl | rfl | rfl | rfl | rfl | rfl | rfl | rfl | rfl | rfl | rfl | rfl | rfl
  · exact fm_1
  · exact fm_2
  · exact fm_3
  · exact fm_4
  · exact fm_5
  · exact fm_6
  · exact fm_7
  · exact fm_8
  · exact fm_9
  · exact fm_10
  · exact fm_11
  · exact fm_12
  · exact fm_13
  · exact fm_14
  · exact fm_15
  · exact fm_16
  · exact fm_17
  · exact fm_18
  · exact fm_19
  · exact fm_20
  · exact fm_21
  · exact fm_22
  · exact fm_23
  · exact fm_24
  · exact fm_25
  · exact fm_26
  · exact fm_27
  · exact fm_28
  · exact fm_29
  · exact fm_30
  · exact fm_31
  · exact fm_32
  · exact fm_33
  · exact fm_34
  · exact fm_35
  · exact fm_36
  · exact fm_37
  · exact fm_38
  · exact fm_39
  · exact fm_40
  · exact fm_41
  · exact fm_42
  · exact fm_43
  · exact fm_44
  · exact fm_45
  · exact fm_46
  · exact fm_47
  · exact fm_48
  · exact fm_49
  · exact fm_50
  · exact fm_51
  · exact fm_52
  · exact fm_53
  · exact fm_54
  · exact fm_55
  · exact fm_56
  · exact fm_57
  · exact fm_58
  · exact fm_59
  · exact fm_60
  · exact fm_61
  · exact fm_62
  · exact fm_63
  · exact fm_64
  · exact fm_65
  · exact fm_66
  · exact fm_67
  · exact fm_68
  · exact fm_69
  · exact fm_70
  · exact fm_71
  · exact fm_72
  · exact fm_73
  · exact fm_74
  · exact fm_75
theorem fv_any (op : Int) (h : 54 ≤ op ∧ op ≤ 75) : FvAt op := by
  have hc : op = 54 ∨ op = 55 ∨ op = 56 ∨ op = 57 ∨ op = 58 ∨ op = 59 ∨ op = 60 ∨ op = 61 ∨ op = 62 ∨ op = 63 ∨ op = 64 ∨ op = 65 ∨ op = 66 ∨ op = 67 ∨ op = 68 ∨ op = 69 ∨ op = 70 ∨ op = 71 ∨ op = 72 ∨ op = 73 ∨ op = 74 ∨ op = 75 := by omega
  rcases hc with rfl | rfl | rfl | rfl | rfl | rfl | rfl | rfl | rfl | rfl | rfl | rfl | rfl | rfl | rfl | rfl | rfl | rfl | rfl | rfl | rfl | rfl
  · exact fv_54
  · exact fv_55
  · exact fv_56
  · exact fv_57
  · exact fv_58
  · exact fv_59
  · exact fv_60
  · exact fv_61
  · exact fv_62
  · exact fv_63
  · exact fv_64
  · exact fv_65
  · exact fv_66
  · exact fv_67
  · exact fv_68
  · exact fv_69
  · exact fv_70
  · exact fv_71
  · exact fv_72
  · exact fv_73
  · exact fv_74
  · exact fv_75
end Go.Proofs.YtbnacdhhacafkaaDoor
