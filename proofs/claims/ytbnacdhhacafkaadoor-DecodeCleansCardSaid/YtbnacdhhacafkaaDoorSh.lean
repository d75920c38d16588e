/- The document's Turned and Shift, operation by operation. -/
import Derived.Test.YtbnacdhhacafkaaDoorRows
import Derived.Test.YtbnacdhhacafkaaDoorSz
import Derived.Test.YtbnacdhhacafkaaDoorTd
import Derived.WalkKit
import Derived.WalkLawsBesides
import Derived.Deep.QuietTactic
import Derived.BigQuiet
import Derived.WalkSmall
import Derived.WalkSpells
import Derived.Lib.Hide
import Derived.Below
namespace Go.Proofs.YtbnacdhhacafkaaDoor
open Go.RowKit

def TuAt (op : Int) : Prop := ∀ w : World, Calls Tryd.prog 49 #[.int .i64 op] w fun e w' => e = .returned (.bool (turB op)) ∧ BW w w'
def ShAt (op : Int) : Prop := ∀ w : World, Calls Tryd.prog 31 #[.int .i64 op] w fun e w' => e = .returned (.int .i64 (shV op)) ∧ BW w w'
theorem tu_1 : TuAt 1 := by
  intro w
  have HS := fun w1 h => sort_bw w w1 h 1 (by decide) (by decide)
  have HN := fun w1 h => name_bw w w1 h 1 (by decide) (by decide)
  have HB : BW w w := Below.refl _ _
  rw [show srt 1 = 1 by decide] at HS
  rw [show tx (nmO 1) = .string ⟨#[108, 117, 105]⟩ from rfl] at HN
  go_enter Tryd.func49, Tryd.ntmps49
  go_wp2_with (first
    | (go_at_call 19; refine (HS _ (by assumption)).mono ?_; rintro e w' ⟨rfl, hb⟩)
    | (go_at_call 18; refine (HN _ (by assumption)).mono ?_; rintro e w' ⟨rfl, hb⟩))
  go_ret
  exact ⟨ret_bool (by decide), by first | assumption | exact BW.new (by assumption) _⟩
theorem sh_1 : ShAt 1 := by
  intro w
  have HS := fun w1 h => sort_bw w w1 h 1 (by decide) (by decide)
  have HN := fun w1 h => name_bw w w1 h 1 (by decide) (by decide)
  have HB : BW w w := Below.refl _ _
  rw [show srt 1 = 1 by decide] at HS
  rw [show tx (nmO 1) = .string ⟨#[108, 117, 105]⟩ from rfl] at HN
  go_enter Tryd.func31, Tryd.ntmps31
  go_wp2_with (first
    | (go_at_call 19; refine (HS _ (by assumption)).mono ?_; rintro e w' ⟨rfl, hb⟩)
    | (go_at_call 18; refine (HN _ (by assumption)).mono ?_; rintro e w' ⟨rfl, hb⟩))
  go_ret
  exact ⟨ret_int (by decide), by first | assumption | exact BW.new (by assumption) _⟩
theorem tu_2 : TuAt 2 := by
  intro w
  have HS := fun w1 h => sort_bw w w1 h 2 (by decide) (by decide)
  have HN := fun w1 h => name_bw w w1 h 2 (by decide) (by decide)
  have HB : BW w w := Below.refl _ _
  rw [show srt 2 = 1 by decide] at HS
  rw [show tx (nmO 2) = .string ⟨#[97, 117, 105, 112, 99]⟩ from rfl] at HN
  go_enter Tryd.func49, Tryd.ntmps49
  go_wp2_with (first
    | (go_at_call 19; refine (HS _ (by assumption)).mono ?_; rintro e w' ⟨rfl, hb⟩)
    | (go_at_call 18; refine (HN _ (by assumption)).mono ?_; rintro e w' ⟨rfl, hb⟩))
  go_ret
  exact ⟨ret_bool (by decide), by first | assumption | exact BW.new (by assumption) _⟩
theorem sh_2 : ShAt 2 := by
  intro w
  have HS := fun w1 h => sort_bw w w1 h 2 (by decide) (by decide)
  have HN := fun w1 h => name_bw w w1 h 2 (by decide) (by decide)
  have HB : BW w w := Below.refl _ _
  rw [show srt 2 = 1 by decide] at HS
  rw [show tx (nmO 2) = .string ⟨#[97, 117, 105, 112, 99]⟩ from rfl] at HN
  go_enter Tryd.func31, Tryd.ntmps31
  go_wp2_with (first
    | (go_at_call 19; refine (HS _ (by assumption)).mono ?_; rintro e w' ⟨rfl, hb⟩)
    | (go_at_call 18; refine (HN _ (by assumption)).mono ?_; rintro e w' ⟨rfl, hb⟩))
  go_ret
  exact ⟨ret_int (by decide), by first | assumption | exact BW.new (by assumption) _⟩
theorem tu_3 : TuAt 3 := by
  intro w
  have HS := fun w1 h => sort_bw w w1 h 3 (by decide) (by decide)
  have HN := fun w1 h => name_bw w w1 h 3 (by decide) (by decide)
  have HB : BW w w := Below.refl _ _
  rw [show srt 3 = 2 by decide] at HS
  rw [show tx (nmO 3) = .string ⟨#[106, 97, 108]⟩ from rfl] at HN
  go_enter Tryd.func49, Tryd.ntmps49
  go_wp2_with (first
    | (go_at_call 19; refine (HS _ (by assumption)).mono ?_; rintro e w' ⟨rfl, hb⟩)
    | (go_at_call 18; refine (HN _ (by assumption)).mono ?_; rintro e w' ⟨rfl, hb⟩))
  go_ret
  exact ⟨ret_bool (by decide), by first | assumption | exact BW.new (by assumption) _⟩
theorem sh_3 : ShAt 3 := by
  intro w
  have HS := fun w1 h => sort_bw w w1 h 3 (by decide) (by decide)
  have HN := fun w1 h => name_bw w w1 h 3 (by decide) (by decide)
  have HB : BW w w := Below.refl _ _
  rw [show srt 3 = 2 by decide] at HS
  rw [show tx (nmO 3) = .string ⟨#[106, 97, 108]⟩ from rfl] at HN
  go_enter Tryd.func31, Tryd.ntmps31
  go_wp2_with (first
    | (go_at_call 19; refine (HS _ (by assumption)).mono ?_; rintro e w' ⟨rfl, hb⟩)
    | (go_at_call 18; refine (HN _ (by assumption)).mono ?_; rintro e w' ⟨rfl, hb⟩))
  go_ret
  exact ⟨ret_int (by decide), by first | assumption | exact BW.new (by assumption) _⟩
theorem tu_4 : TuAt 4 := by
  intro w
  have HS := fun w1 h => sort_bw w w1 h 4 (by decide) (by decide)
  have HN := fun w1 h => name_bw w w1 h 4 (by decide) (by decide)
  have HB : BW w w := Below.refl _ _
  rw [show srt 4 = 2 by decide] at HS
  rw [show tx (nmO 4) = .string ⟨#[106, 97, 108, 114]⟩ from rfl] at HN
  go_enter Tryd.func49, Tryd.ntmps49
  go_wp2_with (first
    | (go_at_call 19; refine (HS _ (by assumption)).mono ?_; rintro e w' ⟨rfl, hb⟩)
    | (go_at_call 18; refine (HN _ (by assumption)).mono ?_; rintro e w' ⟨rfl, hb⟩))
  go_ret
  exact ⟨ret_bool (by decide), by first | assumption | exact BW.new (by assumption) _⟩
theorem sh_4 : ShAt 4 := by
  intro w
  have HS := fun w1 h => sort_bw w w1 h 4 (by decide) (by decide)
  have HN := fun w1 h => name_bw w w1 h 4 (by decide) (by decide)
  have HB : BW w w := Below.refl _ _
  rw [show srt 4 = 2 by decide] at HS
  rw [show tx (nmO 4) = .string ⟨#[106, 97, 108, 114]⟩ from rfl] at HN
  go_enter Tryd.func31, Tryd.ntmps31
  go_wp2_with (first
    | (go_at_call 19; refine (HS _ (by assumption)).mono ?_; rintro e w' ⟨rfl, hb⟩)
    | (go_at_call 18; refine (HN _ (by assumption)).mono ?_; rintro e w' ⟨rfl, hb⟩))
  go_ret
  exact ⟨ret_int (by decide), by first | assumption | exact BW.new (by assumption) _⟩
theorem tu_5 : TuAt 5 := by
  intro w
  have HS := fun w1 h => sort_bw w w1 h 5 (by decide) (by decide)
  have HN := fun w1 h => name_bw w w1 h 5 (by decide) (by decide)
  have HB : BW w w := Below.refl _ _
  rw [show srt 5 = 3 by decide] at HS
  rw [show tx (nmO 5) = .string ⟨#[98, 101, 113]⟩ from rfl] at HN
  go_enter Tryd.func49, Tryd.ntmps49
  go_wp2_with (first
    | (go_at_call 19; refine (HS _ (by assumption)).mono ?_; rintro e w' ⟨rfl, hb⟩)
    | (go_at_call 18; refine (HN _ (by assumption)).mono ?_; rintro e w' ⟨rfl, hb⟩))
  go_ret
  exact ⟨ret_bool (by decide), by first | assumption | exact BW.new (by assumption) _⟩
theorem sh_5 : ShAt 5 := by
  intro w
  have HS := fun w1 h => sort_bw w w1 h 5 (by decide) (by decide)
  have HN := fun w1 h => name_bw w w1 h 5 (by decide) (by decide)
  have HB : BW w w := Below.refl _ _
  rw [show srt 5 = 3 by decide] at HS
  rw [show tx (nmO 5) = .string ⟨#[98, 101, 113]⟩ from rfl] at HN
  go_enter Tryd.func31, Tryd.ntmps31
  go_wp2_with (first
    | (go_at_call 19; refine (HS _ (by assumption)).mono ?_; rintro e w' ⟨rfl, hb⟩)
    | (go_at_call 18; refine (HN _ (by assumption)).mono ?_; rintro e w' ⟨rfl, hb⟩))
  go_ret
  exact ⟨ret_int (by decide), by first | assumption | exact BW.new (by assumption) _⟩
theorem tu_6 : TuAt 6 := by
  intro w
  have HS := fun w1 h => sort_bw w w1 h 6 (by decide) (by decide)
  have HN := fun w1 h => name_bw w w1 h 6 (by decide) (by decide)
  have HB : BW w w := Below.refl _ _
  rw [show srt 6 = 3 by decide] at HS
  rw [show tx (nmO 6) = .string ⟨#[98, 110, 101]⟩ from rfl] at HN
  go_enter Tryd.func49, Tryd.ntmps49
  go_wp2_with (first
    | (go_at_call 19; refine (HS _ (by assumption)).mono ?_; rintro e w' ⟨rfl, hb⟩)
    | (go_at_call 18; refine (HN _ (by assumption)).mono ?_; rintro e w' ⟨rfl, hb⟩))
  go_ret
  exact ⟨ret_bool (by decide), by first | assumption | exact BW.new (by assumption) _⟩
theorem sh_6 : ShAt 6 := by
  intro w
  have HS := fun w1 h => sort_bw w w1 h 6 (by decide) (by decide)
  have HN := fun w1 h => name_bw w w1 h 6 (by decide) (by decide)
  have HB : BW w w := Below.refl _ _
  rw [show srt 6 = 3 by decide] at HS
  rw [show tx (nmO 6) = .string ⟨#[98, 110, 101]⟩ from rfl] at HN
  go_enter Tryd.func31, Tryd.ntmps31
  go_wp2_with (first
    | (go_at_call 19; refine (HS _ (by assumption)).mono ?_; rintro e w' ⟨rfl, hb⟩)
    | (go_at_call 18; refine (HN _ (by assumption)).mono ?_; rintro e w' ⟨rfl, hb⟩))
  go_ret
  exact ⟨ret_int (by decide), by first | assumption | exact BW.new (by assumption) _⟩
theorem tu_7 : TuAt 7 := by
  intro w
  have HS := fun w1 h => sort_bw w w1 h 7 (by decide) (by decide)
  have HN := fun w1 h => name_bw w w1 h 7 (by decide) (by decide)
  have HB : BW w w := Below.refl _ _
  rw [show srt 7 = 3 by decide] at HS
  rw [show tx (nmO 7) = .string ⟨#[98, 108, 116]⟩ from rfl] at HN
  go_enter Tryd.func49, Tryd.ntmps49
  go_wp2_with (first
    | (go_at_call 19; refine (HS _ (by assumption)).mono ?_; rintro e w' ⟨rfl, hb⟩)
    | (go_at_call 18; refine (HN _ (by assumption)).mono ?_; rintro e w' ⟨rfl, hb⟩))
  go_ret
  exact ⟨ret_bool (by decide), by first | assumption | exact BW.new (by assumption) _⟩
theorem sh_7 : ShAt 7 := by
  intro w
  have HS := fun w1 h => sort_bw w w1 h 7 (by decide) (by decide)
  have HN := fun w1 h => name_bw w w1 h 7 (by decide) (by decide)
  have HB : BW w w := Below.refl _ _
  rw [show srt 7 = 3 by decide] at HS
  rw [show tx (nmO 7) = .string ⟨#[98, 108, 116]⟩ from rfl] at HN
  go_enter Tryd.func31, Tryd.ntmps31
  go_wp2_with (first
    | (go_at_call 19; refine (HS _ (by assumption)).mono ?_; rintro e w' ⟨rfl, hb⟩)
    | (go_at_call 18; refine (HN _ (by assumption)).mono ?_; rintro e w' ⟨rfl, hb⟩))
  go_ret
  exact ⟨ret_int (by decide), by first | assumption | exact BW.new (by assumption) _⟩
theorem tu_8 : TuAt 8 := by
  intro w
  have HS := fun w1 h => sort_bw w w1 h 8 (by decide) (by decide)
  have HN := fun w1 h => name_bw w w1 h 8 (by decide) (by decide)
  have HB : BW w w := Below.refl _ _
  rw [show srt 8 = 3 by decide] at HS
  rw [show tx (nmO 8) = .string ⟨#[98, 103, 101]⟩ from rfl] at HN
  go_enter Tryd.func49, Tryd.ntmps49
  go_wp2_with (first
    | (go_at_call 19; refine (HS _ (by assumption)).mono ?_; rintro e w' ⟨rfl, hb⟩)
    | (go_at_call 18; refine (HN _ (by assumption)).mono ?_; rintro e w' ⟨rfl, hb⟩))
  go_ret
  exact ⟨ret_bool (by decide), by first | assumption | exact BW.new (by assumption) _⟩
theorem sh_8 : ShAt 8 := by
  intro w
  have HS := fun w1 h => sort_bw w w1 h 8 (by decide) (by decide)
  have HN := fun w1 h => name_bw w w1 h 8 (by decide) (by decide)
  have HB : BW w w := Below.refl _ _
  rw [show srt 8 = 3 by decide] at HS
  rw [show tx (nmO 8) = .string ⟨#[98, 103, 101]⟩ from rfl] at HN
  go_enter Tryd.func31, Tryd.ntmps31
  go_wp2_with (first
    | (go_at_call 19; refine (HS _ (by assumption)).mono ?_; rintro e w' ⟨rfl, hb⟩)
    | (go_at_call 18; refine (HN _ (by assumption)).mono ?_; rintro e w' ⟨rfl, hb⟩))
  go_ret
  exact ⟨ret_int (by decide), by first | assumption | exact BW.new (by assumption) _⟩
theorem tu_9 : TuAt 9 := by
  intro w
  have HS := fun w1 h => sort_bw w w1 h 9 (by decide) (by decide)
  have HN := fun w1 h => name_bw w w1 h 9 (by decide) (by decide)
  have HB : BW w w := Below.refl _ _
  rw [show srt 9 = 3 by decide] at HS
  rw [show tx (nmO 9) = .string ⟨#[98, 108, 116, 117]⟩ from rfl] at HN
  go_enter Tryd.func49, Tryd.ntmps49
  go_wp2_with (first
    | (go_at_call 19; refine (HS _ (by assumption)).mono ?_; rintro e w' ⟨rfl, hb⟩)
    | (go_at_call 18; refine (HN _ (by assumption)).mono ?_; rintro e w' ⟨rfl, hb⟩))
  go_ret
  exact ⟨ret_bool (by decide), by first | assumption | exact BW.new (by assumption) _⟩
theorem sh_9 : ShAt 9 := by
  intro w
  have HS := fun w1 h => sort_bw w w1 h 9 (by decide) (by decide)
  have HN := fun w1 h => name_bw w w1 h 9 (by decide) (by decide)
  have HB : BW w w := Below.refl _ _
  rw [show srt 9 = 3 by decide] at HS
  rw [show tx (nmO 9) = .string ⟨#[98, 108, 116, 117]⟩ from rfl] at HN
  go_enter Tryd.func31, Tryd.ntmps31
  go_wp2_with (first
    | (go_at_call 19; refine (HS _ (by assumption)).mono ?_; rintro e w' ⟨rfl, hb⟩)
    | (go_at_call 18; refine (HN _ (by assumption)).mono ?_; rintro e w' ⟨rfl, hb⟩))
  go_ret
  exact ⟨ret_int (by decide), by first | assumption | exact BW.new (by assumption) _⟩
theorem tu_10 : TuAt 10 := by
  intro w
  have HS := fun w1 h => sort_bw w w1 h 10 (by decide) (by decide)
  have HN := fun w1 h => name_bw w w1 h 10 (by decide) (by decide)
  have HB : BW w w := Below.refl _ _
  rw [show srt 10 = 3 by decide] at HS
  rw [show tx (nmO 10) = .string ⟨#[98, 103, 101, 117]⟩ from rfl] at HN
  go_enter Tryd.func49, Tryd.ntmps49
  go_wp2_with (first
    | (go_at_call 19; refine (HS _ (by assumption)).mono ?_; rintro e w' ⟨rfl, hb⟩)
    | (go_at_call 18; refine (HN _ (by assumption)).mono ?_; rintro e w' ⟨rfl, hb⟩))
  go_ret
  exact ⟨ret_bool (by decide), by first | assumption | exact BW.new (by assumption) _⟩
theorem sh_10 : ShAt 10 := by
  intro w
  have HS := fun w1 h => sort_bw w w1 h 10 (by decide) (by decide)
  have HN := fun w1 h => name_bw w w1 h 10 (by decide) (by decide)
  have HB : BW w w := Below.refl _ _
  rw [show srt 10 = 3 by decide] at HS
  rw [show tx (nmO 10) = .string ⟨#[98, 103, 101, 117]⟩ from rfl] at HN
  go_enter Tryd.func31, Tryd.ntmps31
  go_wp2_with (first
    | (go_at_call 19; refine (HS _ (by assumption)).mono ?_; rintro e w' ⟨rfl, hb⟩)
    | (go_at_call 18; refine (HN _ (by assumption)).mono ?_; rintro e w' ⟨rfl, hb⟩))
  go_ret
  exact ⟨ret_int (by decide), by first | assumption | exact BW.new (by assumption) _⟩
theorem tu_11 : TuAt 11 := by
  intro w
  have HS := fun w1 h => sort_bw w w1 h 11 (by decide) (by decide)
  have HN := fun w1 h => name_bw w w1 h 11 (by decide) (by decide)
  have HB : BW w w := Below.refl _ _
  rw [show srt 11 = 4 by decide] at HS
  rw [show tx (nmO 11) = .string ⟨#[108, 98]⟩ from rfl] at HN
  go_enter Tryd.func49, Tryd.ntmps49
  go_wp2_with (first
    | (go_at_call 19; refine (HS _ (by assumption)).mono ?_; rintro e w' ⟨rfl, hb⟩)
    | (go_at_call 18; refine (HN _ (by assumption)).mono ?_; rintro e w' ⟨rfl, hb⟩))
  go_ret
  exact ⟨ret_bool (by decide), by first | assumption | exact BW.new (by assumption) _⟩
theorem sh_11 : ShAt 11 := by
  intro w
  have HS := fun w1 h => sort_bw w w1 h 11 (by decide) (by decide)
  have HN := fun w1 h => name_bw w w1 h 11 (by decide) (by decide)
  have HB : BW w w := Below.refl _ _
  rw [show srt 11 = 4 by decide] at HS
  rw [show tx (nmO 11) = .string ⟨#[108, 98]⟩ from rfl] at HN
  go_enter Tryd.func31, Tryd.ntmps31
  go_wp2_with (first
    | (go_at_call 19; refine (HS _ (by assumption)).mono ?_; rintro e w' ⟨rfl, hb⟩)
    | (go_at_call 18; refine (HN _ (by assumption)).mono ?_; rintro e w' ⟨rfl, hb⟩))
  go_ret
  exact ⟨ret_int (by decide), by first | assumption | exact BW.new (by assumption) _⟩
theorem tu_12 : TuAt 12 := by
  intro w
  have HS := fun w1 h => sort_bw w w1 h 12 (by decide) (by decide)
  have HN := fun w1 h => name_bw w w1 h 12 (by decide) (by decide)
  have HB : BW w w := Below.refl _ _
  rw [show srt 12 = 4 by decide] at HS
  rw [show tx (nmO 12) = .string ⟨#[108, 104]⟩ from rfl] at HN
  go_enter Tryd.func49, Tryd.ntmps49
  go_wp2_with (first
    | (go_at_call 19; refine (HS _ (by assumption)).mono ?_; rintro e w' ⟨rfl, hb⟩)
    | (go_at_call 18; refine (HN _ (by assumption)).mono ?_; rintro e w' ⟨rfl, hb⟩))
  go_ret
  exact ⟨ret_bool (by decide), by first | assumption | exact BW.new (by assumption) _⟩
theorem sh_12 : ShAt 12 := by
  intro w
  have HS := fun w1 h => sort_bw w w1 h 12 (by decide) (by decide)
  have HN := fun w1 h => name_bw w w1 h 12 (by decide) (by decide)
  have HB : BW w w := Below.refl _ _
  rw [show srt 12 = 4 by decide] at HS
  rw [show tx (nmO 12) = .string ⟨#[108, 104]⟩ from rfl] at HN
  go_enter Tryd.func31, Tryd.ntmps31
  go_wp2_with (first
    | (go_at_call 19; refine (HS _ (by assumption)).mono ?_; rintro e w' ⟨rfl, hb⟩)
    | (go_at_call 18; refine (HN _ (by assumption)).mono ?_; rintro e w' ⟨rfl, hb⟩))
  go_ret
  exact ⟨ret_int (by decide), by first | assumption | exact BW.new (by assumption) _⟩
theorem tu_13 : TuAt 13 := by
  intro w
  have HS := fun w1 h => sort_bw w w1 h 13 (by decide) (by decide)
  have HN := fun w1 h => name_bw w w1 h 13 (by decide) (by decide)
  have HB : BW w w := Below.refl _ _
  rw [show srt 13 = 4 by decide] at HS
  rw [show tx (nmO 13) = .string ⟨#[108, 119]⟩ from rfl] at HN
  go_enter Tryd.func49, Tryd.ntmps49
  go_wp2_with (first
    | (go_at_call 19; refine (HS _ (by assumption)).mono ?_; rintro e w' ⟨rfl, hb⟩)
    | (go_at_call 18; refine (HN _ (by assumption)).mono ?_; rintro e w' ⟨rfl, hb⟩))
  go_ret
  exact ⟨ret_bool (by decide), by first | assumption | exact BW.new (by assumption) _⟩
theorem sh_13 : ShAt 13 := by
  intro w
  have HS := fun w1 h => sort_bw w w1 h 13 (by decide) (by decide)
  have HN := fun w1 h => name_bw w w1 h 13 (by decide) (by decide)
  have HB : BW w w := Below.refl _ _
  rw [show srt 13 = 4 by decide] at HS
  rw [show tx (nmO 13) = .string ⟨#[108, 119]⟩ from rfl] at HN
  go_enter Tryd.func31, Tryd.ntmps31
  go_wp2_with (first
    | (go_at_call 19; refine (HS _ (by assumption)).mono ?_; rintro e w' ⟨rfl, hb⟩)
    | (go_at_call 18; refine (HN _ (by assumption)).mono ?_; rintro e w' ⟨rfl, hb⟩))
  go_ret
  exact ⟨ret_int (by decide), by first | assumption | exact BW.new (by assumption) _⟩
theorem tu_14 : TuAt 14 := by
  intro w
  have HS := fun w1 h => sort_bw w w1 h 14 (by decide) (by decide)
  have HN := fun w1 h => name_bw w w1 h 14 (by decide) (by decide)
  have HB : BW w w := Below.refl _ _
  rw [show srt 14 = 4 by decide] at HS
  rw [show tx (nmO 14) = .string ⟨#[108, 100]⟩ from rfl] at HN
  go_enter Tryd.func49, Tryd.ntmps49
  go_wp2_with (first
    | (go_at_call 19; refine (HS _ (by assumption)).mono ?_; rintro e w' ⟨rfl, hb⟩)
    | (go_at_call 18; refine (HN _ (by assumption)).mono ?_; rintro e w' ⟨rfl, hb⟩))
  go_ret
  exact ⟨ret_bool (by decide), by first | assumption | exact BW.new (by assumption) _⟩
theorem sh_14 : ShAt 14 := by
  intro w
  have HS := fun w1 h => sort_bw w w1 h 14 (by decide) (by decide)
  have HN := fun w1 h => name_bw w w1 h 14 (by decide) (by decide)
  have HB : BW w w := Below.refl _ _
  rw [show srt 14 = 4 by decide] at HS
  rw [show tx (nmO 14) = .string ⟨#[108, 100]⟩ from rfl] at HN
  go_enter Tryd.func31, Tryd.ntmps31
  go_wp2_with (first
    | (go_at_call 19; refine (HS _ (by assumption)).mono ?_; rintro e w' ⟨rfl, hb⟩)
    | (go_at_call 18; refine (HN _ (by assumption)).mono ?_; rintro e w' ⟨rfl, hb⟩))
  go_ret
  exact ⟨ret_int (by decide), by first | assumption | exact BW.new (by assumption) _⟩
theorem tu_15 : TuAt 15 := by
  intro w
  have HS := fun w1 h => sort_bw w w1 h 15 (by decide) (by decide)
  have HN := fun w1 h => name_bw w w1 h 15 (by decide) (by decide)
  have HB : BW w w := Below.refl _ _
  rw [show srt 15 = 4 by decide] at HS
  rw [show tx (nmO 15) = .string ⟨#[108, 98, 117]⟩ from rfl] at HN
  go_enter Tryd.func49, Tryd.ntmps49
  go_wp2_with (first
    | (go_at_call 19; refine (HS _ (by assumption)).mono ?_; rintro e w' ⟨rfl, hb⟩)
    | (go_at_call 18; refine (HN _ (by assumption)).mono ?_; rintro e w' ⟨rfl, hb⟩))
  go_ret
  exact ⟨ret_bool (by decide), by first | assumption | exact BW.new (by assumption) _⟩
theorem sh_15 : ShAt 15 := by
  intro w
  have HS := fun w1 h => sort_bw w w1 h 15 (by decide) (by decide)
  have HN := fun w1 h => name_bw w w1 h 15 (by decide) (by decide)
  have HB : BW w w := Below.refl _ _
  rw [show srt 15 = 4 by decide] at HS
  rw [show tx (nmO 15) = .string ⟨#[108, 98, 117]⟩ from rfl] at HN
  go_enter Tryd.func31, Tryd.ntmps31
  go_wp2_with (first
    | (go_at_call 19; refine (HS _ (by assumption)).mono ?_; rintro e w' ⟨rfl, hb⟩)
    | (go_at_call 18; refine (HN _ (by assumption)).mono ?_; rintro e w' ⟨rfl, hb⟩))
  go_ret
  exact ⟨ret_int (by decide), by first | assumption | exact BW.new (by assumption) _⟩
theorem tu_16 : TuAt 16 := by
  intro w
  have HS := fun w1 h => sort_bw w w1 h 16 (by decide) (by decide)
  have HN := fun w1 h => name_bw w w1 h 16 (by decide) (by decide)
  have HB : BW w w := Below.refl _ _
  rw [show srt 16 = 4 by decide] at HS
  rw [show tx (nmO 16) = .string ⟨#[108, 104, 117]⟩ from rfl] at HN
  go_enter Tryd.func49, Tryd.ntmps49
  go_wp2_with (first
    | (go_at_call 19; refine (HS _ (by assumption)).mono ?_; rintro e w' ⟨rfl, hb⟩)
    | (go_at_call 18; refine (HN _ (by assumption)).mono ?_; rintro e w' ⟨rfl, hb⟩))
  go_ret
  exact ⟨ret_bool (by decide), by first | assumption | exact BW.new (by assumption) _⟩
theorem sh_16 : ShAt 16 := by
  intro w
  have HS := fun w1 h => sort_bw w w1 h 16 (by decide) (by decide)
  have HN := fun w1 h => name_bw w w1 h 16 (by decide) (by decide)
  have HB : BW w w := Below.refl _ _
  rw [show srt 16 = 4 by decide] at HS
  rw [show tx (nmO 16) = .string ⟨#[108, 104, 117]⟩ from rfl] at HN
  go_enter Tryd.func31, Tryd.ntmps31
  go_wp2_with (first
    | (go_at_call 19; refine (HS _ (by assumption)).mono ?_; rintro e w' ⟨rfl, hb⟩)
    | (go_at_call 18; refine (HN _ (by assumption)).mono ?_; rintro e w' ⟨rfl, hb⟩))
  go_ret
  exact ⟨ret_int (by decide), by first | assumption | exact BW.new (by assumption) _⟩
theorem tu_17 : TuAt 17 := by
  intro w
  have HS := fun w1 h => sort_bw w w1 h 17 (by decide) (by decide)
  have HN := fun w1 h => name_bw w w1 h 17 (by decide) (by decide)
  have HB : BW w w := Below.refl _ _
  rw [show srt 17 = 4 by decide] at HS
  rw [show tx (nmO 17) = .string ⟨#[108, 119, 117]⟩ from rfl] at HN
  go_enter Tryd.func49, Tryd.ntmps49
  go_wp2_with (first
    | (go_at_call 19; refine (HS _ (by assumption)).mono ?_; rintro e w' ⟨rfl, hb⟩)
    | (go_at_call 18; refine (HN _ (by assumption)).mono ?_; rintro e w' ⟨rfl, hb⟩))
  go_ret
  exact ⟨ret_bool (by decide), by first | assumption | exact BW.new (by assumption) _⟩
theorem sh_17 : ShAt 17 := by
  intro w
  have HS := fun w1 h => sort_bw w w1 h 17 (by decide) (by decide)
  have HN := fun w1 h => name_bw w w1 h 17 (by decide) (by decide)
  have HB : BW w w := Below.refl _ _
  rw [show srt 17 = 4 by decide] at HS
  rw [show tx (nmO 17) = .string ⟨#[108, 119, 117]⟩ from rfl] at HN
  go_enter Tryd.func31, Tryd.ntmps31
  go_wp2_with (first
    | (go_at_call 19; refine (HS _ (by assumption)).mono ?_; rintro e w' ⟨rfl, hb⟩)
    | (go_at_call 18; refine (HN _ (by assumption)).mono ?_; rintro e w' ⟨rfl, hb⟩))
  go_ret
  exact ⟨ret_int (by decide), by first | assumption | exact BW.new (by assumption) _⟩
theorem tu_18 : TuAt 18 := by
  intro w
  have HS := fun w1 h => sort_bw w w1 h 18 (by decide) (by decide)
  have HN := fun w1 h => name_bw w w1 h 18 (by decide) (by decide)
  have HB : BW w w := Below.refl _ _
  rw [show srt 18 = 5 by decide] at HS
  rw [show tx (nmO 18) = .string ⟨#[115, 98]⟩ from rfl] at HN
  go_enter Tryd.func49, Tryd.ntmps49
  go_wp2_with (first
    | (go_at_call 19; refine (HS _ (by assumption)).mono ?_; rintro e w' ⟨rfl, hb⟩)
    | (go_at_call 18; refine (HN _ (by assumption)).mono ?_; rintro e w' ⟨rfl, hb⟩))
  go_ret
  exact ⟨ret_bool (by decide), by first | assumption | exact BW.new (by assumption) _⟩
theorem sh_18 : ShAt 18 := by
  intro w
  have HS := fun w1 h => sort_bw w w1 h 18 (by decide) (by decide)
  have HN := fun w1 h => name_bw w w1 h 18 (by decide) (by decide)
  have HB : BW w w := Below.refl _ _
  rw [show srt 18 = 5 by decide] at HS
  rw [show tx (nmO 18) = .string ⟨#[115, 98]⟩ from rfl] at HN
  go_enter Tryd.func31, Tryd.ntmps31
  go_wp2_with (first
    | (go_at_call 19; refine (HS _ (by assumption)).mono ?_; rintro e w' ⟨rfl, hb⟩)
    | (go_at_call 18; refine (HN _ (by assumption)).mono ?_; rintro e w' ⟨rfl, hb⟩))
  go_ret
  exact ⟨ret_int (by decide), by first | assumption | exact BW.new (by assumption) _⟩
theorem tu_19 : TuAt 19 := by
  intro w
  have HS := fun w1 h => sort_bw w w1 h 19 (by decide) (by decide)
  have HN := fun w1 h => name_bw w w1 h 19 (by decide) (by decide)
  have HB : BW w w := Below.refl _ _
  rw [show srt 19 = 5 by decide] at HS
  rw [show tx (nmO 19) = .string ⟨#[115, 104]⟩ from rfl] at HN
  go_enter Tryd.func49, Tryd.ntmps49
  go_wp2_with (first
    | (go_at_call 19; refine (HS _ (by assumption)).mono ?_; rintro e w' ⟨rfl, hb⟩)
    | (go_at_call 18; refine (HN _ (by assumption)).mono ?_; rintro e w' ⟨rfl, hb⟩))
  go_ret
  exact ⟨ret_bool (by decide), by first | assumption | exact BW.new (by assumption) _⟩
theorem sh_19 : ShAt 19 := by
  intro w
  have HS := fun w1 h => sort_bw w w1 h 19 (by decide) (by decide)
  have HN := fun w1 h => name_bw w w1 h 19 (by decide) (by decide)
  have HB : BW w w := Below.refl _ _
  rw [show srt 19 = 5 by decide] at HS
  rw [show tx (nmO 19) = .string ⟨#[115, 104]⟩ from rfl] at HN
  go_enter Tryd.func31, Tryd.ntmps31
  go_wp2_with (first
    | (go_at_call 19; refine (HS _ (by assumption)).mono ?_; rintro e w' ⟨rfl, hb⟩)
    | (go_at_call 18; refine (HN _ (by assumption)).mono ?_; rintro e w' ⟨rfl, hb⟩))
  go_ret
  exact ⟨ret_int (by decide), by first | assumption | exact BW.new (by assumption) _⟩
theorem tu_20 : TuAt 20 := by
  intro w
  have HS := fun w1 h => sort_bw w w1 h 20 (by decide) (by decide)
  have HN := fun w1 h => name_bw w w1 h 20 (by decide) (by decide)
  have HB : BW w w := Below.refl _ _
  rw [show srt 20 = 5 by decide] at HS
  rw [show tx (nmO 20) = .string ⟨#[115, 119]⟩ from rfl] at HN
  go_enter Tryd.func49, Tryd.ntmps49
  go_wp2_with (first
    | (go_at_call 19; refine (HS _ (by assumption)).mono ?_; rintro e w' ⟨rfl, hb⟩)
    | (go_at_call 18; refine (HN _ (by assumption)).mono ?_; rintro e w' ⟨rfl, hb⟩))
  go_ret
  exact ⟨ret_bool (by decide), by first | assumption | exact BW.new (by assumption) _⟩
theorem sh_20 : ShAt 20 := by
  intro w
  have HS := fun w1 h => sort_bw w w1 h 20 (by decide) (by decide)
  have HN := fun w1 h => name_bw w w1 h 20 (by decide) (by decide)
  have HB : BW w w := Below.refl _ _
  rw [show srt 20 = 5 by decide] at HS
  rw [show tx (nmO 20) = .string ⟨#[115, 119]⟩ from rfl] at HN
  go_enter Tryd.func31, Tryd.ntmps31
  go_wp2_with (first
    | (go_at_call 19; refine (HS _ (by assumption)).mono ?_; rintro e w' ⟨rfl, hb⟩)
    | (go_at_call 18; refine (HN _ (by assumption)).mono ?_; rintro e w' ⟨rfl, hb⟩))
  go_ret
  exact ⟨ret_int (by decide), by first | assumption | exact BW.new (by assumption) _⟩
theorem tu_21 : TuAt 21 := by
  intro w
  have HS := fun w1 h => sort_bw w w1 h 21 (by decide) (by decide)
  have HN := fun w1 h => name_bw w w1 h 21 (by decide) (by decide)
  have HB : BW w w := Below.refl _ _
  rw [show srt 21 = 5 by decide] at HS
  rw [show tx (nmO 21) = .string ⟨#[115, 100]⟩ from rfl] at HN
  go_enter Tryd.func49, Tryd.ntmps49
  go_wp2_with (first
    | (go_at_call 19; refine (HS _ (by assumption)).mono ?_; rintro e w' ⟨rfl, hb⟩)
    | (go_at_call 18; refine (HN _ (by assumption)).mono ?_; rintro e w' ⟨rfl, hb⟩))
  go_ret
  exact ⟨ret_bool (by decide), by first | assumption | exact BW.new (by assumption) _⟩
theorem sh_21 : ShAt 21 := by
  intro w
  have HS := fun w1 h => sort_bw w w1 h 21 (by decide) (by decide)
  have HN := fun w1 h => name_bw w w1 h 21 (by decide) (by decide)
  have HB : BW w w := Below.refl _ _
  rw [show srt 21 = 5 by decide] at HS
  rw [show tx (nmO 21) = .string ⟨#[115, 100]⟩ from rfl] at HN
  go_enter Tryd.func31, Tryd.ntmps31
  go_wp2_with (first
    | (go_at_call 19; refine (HS _ (by assumption)).mono ?_; rintro e w' ⟨rfl, hb⟩)
    | (go_at_call 18; refine (HN _ (by assumption)).mono ?_; rintro e w' ⟨rfl, hb⟩))
  go_ret
  exact ⟨ret_int (by decide), by first | assumption | exact BW.new (by assumption) _⟩
theorem tu_22 : TuAt 22 := by
  intro w
  have HS := fun w1 h => sort_bw w w1 h 22 (by decide) (by decide)
  have HN := fun w1 h => name_bw w w1 h 22 (by decide) (by decide)
  have HB : BW w w := Below.refl _ _
  rw [show srt 22 = 6 by decide] at HS
  rw [show tx (nmO 22) = .string ⟨#[97, 100, 100, 105]⟩ from rfl] at HN
  go_enter Tryd.func49, Tryd.ntmps49
  go_wp2_with (first
    | (go_at_call 19; refine (HS _ (by assumption)).mono ?_; rintro e w' ⟨rfl, hb⟩)
    | (go_at_call 18; refine (HN _ (by assumption)).mono ?_; rintro e w' ⟨rfl, hb⟩))
  go_ret
  exact ⟨ret_bool (by decide), by first | assumption | exact BW.new (by assumption) _⟩
theorem sh_22 : ShAt 22 := by
  intro w
  have HS := fun w1 h => sort_bw w w1 h 22 (by decide) (by decide)
  have HN := fun w1 h => name_bw w w1 h 22 (by decide) (by decide)
  have HB : BW w w := Below.refl _ _
  rw [show srt 22 = 6 by decide] at HS
  rw [show tx (nmO 22) = .string ⟨#[97, 100, 100, 105]⟩ from rfl] at HN
  go_enter Tryd.func31, Tryd.ntmps31
  go_wp2_with (first
    | (go_at_call 19; refine (HS _ (by assumption)).mono ?_; rintro e w' ⟨rfl, hb⟩)
    | (go_at_call 18; refine (HN _ (by assumption)).mono ?_; rintro e w' ⟨rfl, hb⟩))
  go_ret
  exact ⟨ret_int (by decide), by first | assumption | exact BW.new (by assumption) _⟩
theorem tu_23 : TuAt 23 := by
  intro w
  have HS := fun w1 h => sort_bw w w1 h 23 (by decide) (by decide)
  have HN := fun w1 h => name_bw w w1 h 23 (by decide) (by decide)
  have HB : BW w w := Below.refl _ _
  rw [show srt 23 = 6 by decide] at HS
  rw [show tx (nmO 23) = .string ⟨#[115, 108, 116, 105]⟩ from rfl] at HN
  go_enter Tryd.func49, Tryd.ntmps49
  go_wp2_with (first
    | (go_at_call 19; refine (HS _ (by assumption)).mono ?_; rintro e w' ⟨rfl, hb⟩)
    | (go_at_call 18; refine (HN _ (by assumption)).mono ?_; rintro e w' ⟨rfl, hb⟩))
  go_ret
  exact ⟨ret_bool (by decide), by first | assumption | exact BW.new (by assumption) _⟩
theorem sh_23 : ShAt 23 := by
  intro w
  have HS := fun w1 h => sort_bw w w1 h 23 (by decide) (by decide)
  have HN := fun w1 h => name_bw w w1 h 23 (by decide) (by decide)
  have HB : BW w w := Below.refl _ _
  rw [show srt 23 = 6 by decide] at HS
  rw [show tx (nmO 23) = .string ⟨#[115, 108, 116, 105]⟩ from rfl] at HN
  go_enter Tryd.func31, Tryd.ntmps31
  go_wp2_with (first
    | (go_at_call 19; refine (HS _ (by assumption)).mono ?_; rintro e w' ⟨rfl, hb⟩)
    | (go_at_call 18; refine (HN _ (by assumption)).mono ?_; rintro e w' ⟨rfl, hb⟩))
  go_ret
  exact ⟨ret_int (by decide), by first | assumption | exact BW.new (by assumption) _⟩
theorem tu_24 : TuAt 24 := by
  intro w
  have HS := fun w1 h => sort_bw w w1 h 24 (by decide) (by decide)
  have HN := fun w1 h => name_bw w w1 h 24 (by decide) (by decide)
  have HB : BW w w := Below.refl _ _
  rw [show srt 24 = 6 by decide] at HS
  rw [show tx (nmO 24) = .string ⟨#[115, 108, 116, 105, 117]⟩ from rfl] at HN
  go_enter Tryd.func49, Tryd.ntmps49
  go_wp2_with (first
    | (go_at_call 19; refine (HS _ (by assumption)).mono ?_; rintro e w' ⟨rfl, hb⟩)
    | (go_at_call 18; refine (HN _ (by assumption)).mono ?_; rintro e w' ⟨rfl, hb⟩))
  go_ret
  exact ⟨ret_bool (by decide), by first | assumption | exact BW.new (by assumption) _⟩
theorem sh_24 : ShAt 24 := by
  intro w
  have HS := fun w1 h => sort_bw w w1 h 24 (by decide) (by decide)
  have HN := fun w1 h => name_bw w w1 h 24 (by decide) (by decide)
  have HB : BW w w := Below.refl _ _
  rw [show srt 24 = 6 by decide] at HS
  rw [show tx (nmO 24) = .string ⟨#[115, 108, 116, 105, 117]⟩ from rfl] at HN
  go_enter Tryd.func31, Tryd.ntmps31
  go_wp2_with (first
    | (go_at_call 19; refine (HS _ (by assumption)).mono ?_; rintro e w' ⟨rfl, hb⟩)
    | (go_at_call 18; refine (HN _ (by assumption)).mono ?_; rintro e w' ⟨rfl, hb⟩))
  go_ret
  exact ⟨ret_int (by decide), by first | assumption | exact BW.new (by assumption) _⟩
theorem tu_25 : TuAt 25 := by
  intro w
  have HS := fun w1 h => sort_bw w w1 h 25 (by decide) (by decide)
  have HN := fun w1 h => name_bw w w1 h 25 (by decide) (by decide)
  have HB : BW w w := Below.refl _ _
  rw [show srt 25 = 6 by decide] at HS
  rw [show tx (nmO 25) = .string ⟨#[120, 111, 114, 105]⟩ from rfl] at HN
  go_enter Tryd.func49, Tryd.ntmps49
  go_wp2_with (first
    | (go_at_call 19; refine (HS _ (by assumption)).mono ?_; rintro e w' ⟨rfl, hb⟩)
    | (go_at_call 18; refine (HN _ (by assumption)).mono ?_; rintro e w' ⟨rfl, hb⟩))
  go_ret
  exact ⟨ret_bool (by decide), by first | assumption | exact BW.new (by assumption) _⟩
theorem sh_25 : ShAt 25 := by
  intro w
  have HS := fun w1 h => sort_bw w w1 h 25 (by decide) (by decide)
  have HN := fun w1 h => name_bw w w1 h 25 (by decide) (by decide)
  have HB : BW w w := Below.refl _ _
  rw [show srt 25 = 6 by decide] at HS
  rw [show tx (nmO 25) = .string ⟨#[120, 111, 114, 105]⟩ from rfl] at HN
  go_enter Tryd.func31, Tryd.ntmps31
  go_wp2_with (first
    | (go_at_call 19; refine (HS _ (by assumption)).mono ?_; rintro e w' ⟨rfl, hb⟩)
    | (go_at_call 18; refine (HN _ (by assumption)).mono ?_; rintro e w' ⟨rfl, hb⟩))
  go_ret
  exact ⟨ret_int (by decide), by first | assumption | exact BW.new (by assumption) _⟩
theorem tu_26 : TuAt 26 := by
  intro w
  have HS := fun w1 h => sort_bw w w1 h 26 (by decide) (by decide)
  have HN := fun w1 h => name_bw w w1 h 26 (by decide) (by decide)
  have HB : BW w w := Below.refl _ _
  rw [show srt 26 = 6 by decide] at HS
  rw [show tx (nmO 26) = .string ⟨#[111, 114, 105]⟩ from rfl] at HN
  go_enter Tryd.func49, Tryd.ntmps49
  go_wp2_with (first
    | (go_at_call 19; refine (HS _ (by assumption)).mono ?_; rintro e w' ⟨rfl, hb⟩)
    | (go_at_call 18; refine (HN _ (by assumption)).mono ?_; rintro e w' ⟨rfl, hb⟩))
  go_ret
  exact ⟨ret_bool (by decide), by first | assumption | exact BW.new (by assumption) _⟩
theorem sh_26 : ShAt 26 := by
  intro w
  have HS := fun w1 h => sort_bw w w1 h 26 (by decide) (by decide)
  have HN := fun w1 h => name_bw w w1 h 26 (by decide) (by decide)
  have HB : BW w w := Below.refl _ _
  rw [show srt 26 = 6 by decide] at HS
  rw [show tx (nmO 26) = .string ⟨#[111, 114, 105]⟩ from rfl] at HN
  go_enter Tryd.func31, Tryd.ntmps31
  go_wp2_with (first
    | (go_at_call 19; refine (HS _ (by assumption)).mono ?_; rintro e w' ⟨rfl, hb⟩)
    | (go_at_call 18; refine (HN _ (by assumption)).mono ?_; rintro e w' ⟨rfl, hb⟩))
  go_ret
  exact ⟨ret_int (by decide), by first | assumption | exact BW.new (by assumption) _⟩
theorem tu_27 : TuAt 27 := by
  intro w
  have HS := fun w1 h => sort_bw w w1 h 27 (by decide) (by decide)
  have HN := fun w1 h => name_bw w w1 h 27 (by decide) (by decide)
  have HB : BW w w := Below.refl _ _
  rw [show srt 27 = 6 by decide] at HS
  rw [show tx (nmO 27) = .string ⟨#[97, 110, 100, 105]⟩ from rfl] at HN
  go_enter Tryd.func49, Tryd.ntmps49
  go_wp2_with (first
    | (go_at_call 19; refine (HS _ (by assumption)).mono ?_; rintro e w' ⟨rfl, hb⟩)
    | (go_at_call 18; refine (HN _ (by assumption)).mono ?_; rintro e w' ⟨rfl, hb⟩))
  go_ret
  exact ⟨ret_bool (by decide), by first | assumption | exact BW.new (by assumption) _⟩
theorem sh_27 : ShAt 27 := by
  intro w
  have HS := fun w1 h => sort_bw w w1 h 27 (by decide) (by decide)
  have HN := fun w1 h => name_bw w w1 h 27 (by decide) (by decide)
  have HB : BW w w := Below.refl _ _
  rw [show srt 27 = 6 by decide] at HS
  rw [show tx (nmO 27) = .string ⟨#[97, 110, 100, 105]⟩ from rfl] at HN
  go_enter Tryd.func31, Tryd.ntmps31
  go_wp2_with (first
    | (go_at_call 19; refine (HS _ (by assumption)).mono ?_; rintro e w' ⟨rfl, hb⟩)
    | (go_at_call 18; refine (HN _ (by assumption)).mono ?_; rintro e w' ⟨rfl, hb⟩))
  go_ret
  exact ⟨ret_int (by decide), by first | assumption | exact BW.new (by assumption) _⟩
theorem tu_28 : TuAt 28 := by
  intro w
  have HS := fun w1 h => sort_bw w w1 h 28 (by decide) (by decide)
  have HN := fun w1 h => name_bw w w1 h 28 (by decide) (by decide)
  have HB : BW w w := Below.refl _ _
  rw [show srt 28 = 6 by decide] at HS
  rw [show tx (nmO 28) = .string ⟨#[115, 108, 108, 105]⟩ from rfl] at HN
  go_enter Tryd.func49, Tryd.ntmps49
  go_wp2_with (first
    | (go_at_call 19; refine (HS _ (by assumption)).mono ?_; rintro e w' ⟨rfl, hb⟩)
    | (go_at_call 18; refine (HN _ (by assumption)).mono ?_; rintro e w' ⟨rfl, hb⟩))
  go_ret
  exact ⟨ret_bool (by decide), by first | assumption | exact BW.new (by assumption) _⟩
theorem sh_28 : ShAt 28 := by
  intro w
  have HS := fun w1 h => sort_bw w w1 h 28 (by decide) (by decide)
  have HN := fun w1 h => name_bw w w1 h 28 (by decide) (by decide)
  have HB : BW w w := Below.refl _ _
  rw [show srt 28 = 6 by decide] at HS
  rw [show tx (nmO 28) = .string ⟨#[115, 108, 108, 105]⟩ from rfl] at HN
  go_enter Tryd.func31, Tryd.ntmps31
  go_wp2_with (first
    | (go_at_call 19; refine (HS _ (by assumption)).mono ?_; rintro e w' ⟨rfl, hb⟩)
    | (go_at_call 18; refine (HN _ (by assumption)).mono ?_; rintro e w' ⟨rfl, hb⟩))
  go_ret
  exact ⟨ret_int (by decide), by first | assumption | exact BW.new (by assumption) _⟩
theorem tu_29 : TuAt 29 := by
  intro w
  have HS := fun w1 h => sort_bw w w1 h 29 (by decide) (by decide)
  have HN := fun w1 h => name_bw w w1 h 29 (by decide) (by decide)
  have HB : BW w w := Below.refl _ _
  rw [show srt 29 = 6 by decide] at HS
  rw [show tx (nmO 29) = .string ⟨#[115, 114, 108, 105]⟩ from rfl] at HN
  go_enter Tryd.func49, Tryd.ntmps49
  go_wp2_with (first
    | (go_at_call 19; refine (HS _ (by assumption)).mono ?_; rintro e w' ⟨rfl, hb⟩)
    | (go_at_call 18; refine (HN _ (by assumption)).mono ?_; rintro e w' ⟨rfl, hb⟩))
  go_ret
  exact ⟨ret_bool (by decide), by first | assumption | exact BW.new (by assumption) _⟩
theorem sh_29 : ShAt 29 := by
  intro w
  have HS := fun w1 h => sort_bw w w1 h 29 (by decide) (by decide)
  have HN := fun w1 h => name_bw w w1 h 29 (by decide) (by decide)
  have HB : BW w w := Below.refl _ _
  rw [show srt 29 = 6 by decide] at HS
  rw [show tx (nmO 29) = .string ⟨#[115, 114, 108, 105]⟩ from rfl] at HN
  go_enter Tryd.func31, Tryd.ntmps31
  go_wp2_with (first
    | (go_at_call 19; refine (HS _ (by assumption)).mono ?_; rintro e w' ⟨rfl, hb⟩)
    | (go_at_call 18; refine (HN _ (by assumption)).mono ?_; rintro e w' ⟨rfl, hb⟩))
  go_ret
  exact ⟨ret_int (by decide), by first | assumption | exact BW.new (by assumption) _⟩
theorem tu_30 : TuAt 30 := by
  intro w
  have HS := fun w1 h => sort_bw w w1 h 30 (by decide) (by decide)
  have HN := fun w1 h => name_bw w w1 h 30 (by decide) (by decide)
  have HB : BW w w := Below.refl _ _
  rw [show srt 30 = 6 by decide] at HS
  rw [show tx (nmO 30) = .string ⟨#[115, 114, 97, 105]⟩ from rfl] at HN
  go_enter Tryd.func49, Tryd.ntmps49
  go_wp2_with (first
    | (go_at_call 19; refine (HS _ (by assumption)).mono ?_; rintro e w' ⟨rfl, hb⟩)
    | (go_at_call 18; refine (HN _ (by assumption)).mono ?_; rintro e w' ⟨rfl, hb⟩))
  go_ret
  exact ⟨ret_bool (by decide), by first | assumption | exact BW.new (by assumption) _⟩
theorem sh_30 : ShAt 30 := by
  intro w
  have HS := fun w1 h => sort_bw w w1 h 30 (by decide) (by decide)
  have HN := fun w1 h => name_bw w w1 h 30 (by decide) (by decide)
  have HB : BW w w := Below.refl _ _
  rw [show srt 30 = 6 by decide] at HS
  rw [show tx (nmO 30) = .string ⟨#[115, 114, 97, 105]⟩ from rfl] at HN
  go_enter Tryd.func31, Tryd.ntmps31
  go_wp2_with (first
    | (go_at_call 19; refine (HS _ (by assumption)).mono ?_; rintro e w' ⟨rfl, hb⟩)
    | (go_at_call 18; refine (HN _ (by assumption)).mono ?_; rintro e w' ⟨rfl, hb⟩))
  go_ret
  exact ⟨ret_int (by decide), by first | assumption | exact BW.new (by assumption) _⟩
theorem tu_31 : TuAt 31 := by
  intro w
  have HS := fun w1 h => sort_bw w w1 h 31 (by decide) (by decide)
  have HN := fun w1 h => name_bw w w1 h 31 (by decide) (by decide)
  have HB : BW w w := Below.refl _ _
  rw [show srt 31 = 6 by decide] at HS
  rw [show tx (nmO 31) = .string ⟨#[97, 100, 100, 105, 119]⟩ from rfl] at HN
  go_enter Tryd.func49, Tryd.ntmps49
  go_wp2_with (first
    | (go_at_call 19; refine (HS _ (by assumption)).mono ?_; rintro e w' ⟨rfl, hb⟩)
    | (go_at_call 18; refine (HN _ (by assumption)).mono ?_; rintro e w' ⟨rfl, hb⟩))
  go_ret
  exact ⟨ret_bool (by decide), by first | assumption | exact BW.new (by assumption) _⟩
theorem sh_31 : ShAt 31 := by
  intro w
  have HS := fun w1 h => sort_bw w w1 h 31 (by decide) (by decide)
  have HN := fun w1 h => name_bw w w1 h 31 (by decide) (by decide)
  have HB : BW w w := Below.refl _ _
  rw [show srt 31 = 6 by decide] at HS
  rw [show tx (nmO 31) = .string ⟨#[97, 100, 100, 105, 119]⟩ from rfl] at HN
  go_enter Tryd.func31, Tryd.ntmps31
  go_wp2_with (first
    | (go_at_call 19; refine (HS _ (by assumption)).mono ?_; rintro e w' ⟨rfl, hb⟩)
    | (go_at_call 18; refine (HN _ (by assumption)).mono ?_; rintro e w' ⟨rfl, hb⟩))
  go_ret
  exact ⟨ret_int (by decide), by first | assumption | exact BW.new (by assumption) _⟩
theorem tu_32 : TuAt 32 := by
  intro w
  have HS := fun w1 h => sort_bw w w1 h 32 (by decide) (by decide)
  have HN := fun w1 h => name_bw w w1 h 32 (by decide) (by decide)
  have HB : BW w w := Below.refl _ _
  rw [show srt 32 = 6 by decide] at HS
  rw [show tx (nmO 32) = .string ⟨#[115, 108, 108, 105, 119]⟩ from rfl] at HN
  go_enter Tryd.func49, Tryd.ntmps49
  go_wp2_with (first
    | (go_at_call 19; refine (HS _ (by assumption)).mono ?_; rintro e w' ⟨rfl, hb⟩)
    | (go_at_call 18; refine (HN _ (by assumption)).mono ?_; rintro e w' ⟨rfl, hb⟩))
  go_ret
  exact ⟨ret_bool (by decide), by first | assumption | exact BW.new (by assumption) _⟩
theorem sh_32 : ShAt 32 := by
  intro w
  have HS := fun w1 h => sort_bw w w1 h 32 (by decide) (by decide)
  have HN := fun w1 h => name_bw w w1 h 32 (by decide) (by decide)
  have HB : BW w w := Below.refl _ _
  rw [show srt 32 = 6 by decide] at HS
  rw [show tx (nmO 32) = .string ⟨#[115, 108, 108, 105, 119]⟩ from rfl] at HN
  go_enter Tryd.func31, Tryd.ntmps31
  go_wp2_with (first
    | (go_at_call 19; refine (HS _ (by assumption)).mono ?_; rintro e w' ⟨rfl, hb⟩)
    | (go_at_call 18; refine (HN _ (by assumption)).mono ?_; rintro e w' ⟨rfl, hb⟩))
  go_ret
  exact ⟨ret_int (by decide), by first | assumption | exact BW.new (by assumption) _⟩
theorem tu_33 : TuAt 33 := by
  intro w
  have HS := fun w1 h => sort_bw w w1 h 33 (by decide) (by decide)
  have HN := fun w1 h => name_bw w w1 h 33 (by decide) (by decide)
  have HB : BW w w := Below.refl _ _
  rw [show srt 33 = 6 by decide] at HS
  rw [show tx (nmO 33) = .string ⟨#[115, 114, 108, 105, 119]⟩ from rfl] at HN
  go_enter Tryd.func49, Tryd.ntmps49
  go_wp2_with (first
    | (go_at_call 19; refine (HS _ (by assumption)).mono ?_; rintro e w' ⟨rfl, hb⟩)
    | (go_at_call 18; refine (HN _ (by assumption)).mono ?_; rintro e w' ⟨rfl, hb⟩))
  go_ret
  exact ⟨ret_bool (by decide), by first | assumption | exact BW.new (by assumption) _⟩
theorem sh_33 : ShAt 33 := by
  intro w
  have HS := fun w1 h => sort_bw w w1 h 33 (by decide) (by decide)
  have HN := fun w1 h => name_bw w w1 h 33 (by decide) (by decide)
  have HB : BW w w := Below.refl _ _
  rw [show srt 33 = 6 by decide] at HS
  rw [show tx (nmO 33) = .string ⟨#[115, 114, 108, 105, 119]⟩ from rfl] at HN
  go_enter Tryd.func31, Tryd.ntmps31
  go_wp2_with (first
    | (go_at_call 19; refine (HS _ (by assumption)).mono ?_; rintro e w' ⟨rfl, hb⟩)
    | (go_at_call 18; refine (HN _ (by assumption)).mono ?_; rintro e w' ⟨rfl, hb⟩))
  go_ret
  exact ⟨ret_int (by decide), by first | assumption | exact BW.new (by assumption) _⟩
theorem tu_34 : TuAt 34 := by
  intro w
  have HS := fun w1 h => sort_bw w w1 h 34 (by decide) (by decide)
  have HN := fun w1 h => name_bw w w1 h 34 (by decide) (by decide)
  have HB : BW w w := Below.refl _ _
  rw [show srt 34 = 6 by decide] at HS
  rw [show tx (nmO 34) = .string ⟨#[115, 114, 97, 105, 119]⟩ from rfl] at HN
  go_enter Tryd.func49, Tryd.ntmps49
  go_wp2_with (first
    | (go_at_call 19; refine (HS _ (by assumption)).mono ?_; rintro e w' ⟨rfl, hb⟩)
    | (go_at_call 18; refine (HN _ (by assumption)).mono ?_; rintro e w' ⟨rfl, hb⟩))
  go_ret
  exact ⟨ret_bool (by decide), by first | assumption | exact BW.new (by assumption) _⟩
theorem sh_34 : ShAt 34 := by
  intro w
  have HS := fun w1 h => sort_bw w w1 h 34 (by decide) (by decide)
  have HN := fun w1 h => name_bw w w1 h 34 (by decide) (by decide)
  have HB : BW w w := Below.refl _ _
  rw [show srt 34 = 6 by decide] at HS
  rw [show tx (nmO 34) = .string ⟨#[115, 114, 97, 105, 119]⟩ from rfl] at HN
  go_enter Tryd.func31, Tryd.ntmps31
  go_wp2_with (first
    | (go_at_call 19; refine (HS _ (by assumption)).mono ?_; rintro e w' ⟨rfl, hb⟩)
    | (go_at_call 18; refine (HN _ (by assumption)).mono ?_; rintro e w' ⟨rfl, hb⟩))
  go_ret
  exact ⟨ret_int (by decide), by first | assumption | exact BW.new (by assumption) _⟩
theorem tu_35 : TuAt 35 := by
  intro w
  have HS := fun w1 h => sort_bw w w1 h 35 (by decide) (by decide)
  have HN := fun w1 h => name_bw w w1 h 35 (by decide) (by decide)
  have HB : BW w w := Below.refl _ _
  rw [show srt 35 = 7 by decide] at HS
  rw [show tx (nmO 35) = .string ⟨#[97, 100, 100]⟩ from rfl] at HN
  go_enter Tryd.func49, Tryd.ntmps49
  go_wp2_with (first
    | (go_at_call 19; refine (HS _ (by assumption)).mono ?_; rintro e w' ⟨rfl, hb⟩)
    | (go_at_call 18; refine (HN _ (by assumption)).mono ?_; rintro e w' ⟨rfl, hb⟩))
  go_ret
  exact ⟨ret_bool (by decide), by first | assumption | exact BW.new (by assumption) _⟩
theorem sh_35 : ShAt 35 := by
  intro w
  have HS := fun w1 h => sort_bw w w1 h 35 (by decide) (by decide)
  have HN := fun w1 h => name_bw w w1 h 35 (by decide) (by decide)
  have HB : BW w w := Below.refl _ _
  rw [show srt 35 = 7 by decide] at HS
  rw [show tx (nmO 35) = .string ⟨#[97, 100, 100]⟩ from rfl] at HN
  go_enter Tryd.func31, Tryd.ntmps31
  go_wp2_with (first
    | (go_at_call 19; refine (HS _ (by assumption)).mono ?_; rintro e w' ⟨rfl, hb⟩)
    | (go_at_call 18; refine (HN _ (by assumption)).mono ?_; rintro e w' ⟨rfl, hb⟩))
  go_ret
  exact ⟨ret_int (by decide), by first | assumption | exact BW.new (by assumption) _⟩
theorem tu_36 : TuAt 36 := by
  intro w
  have HS := fun w1 h => sort_bw w w1 h 36 (by decide) (by decide)
  have HN := fun w1 h => name_bw w w1 h 36 (by decide) (by decide)
  have HB : BW w w := Below.refl _ _
  rw [show srt 36 = 7 by decide] at HS
  rw [show tx (nmO 36) = .string ⟨#[115, 117, 98]⟩ from rfl] at HN
  go_enter Tryd.func49, Tryd.ntmps49
  go_wp2_with (first
    | (go_at_call 19; refine (HS _ (by assumption)).mono ?_; rintro e w' ⟨rfl, hb⟩)
    | (go_at_call 18; refine (HN _ (by assumption)).mono ?_; rintro e w' ⟨rfl, hb⟩))
  go_ret
  exact ⟨ret_bool (by decide), by first | assumption | exact BW.new (by assumption) _⟩
theorem sh_36 : ShAt 36 := by
  intro w
  have HS := fun w1 h => sort_bw w w1 h 36 (by decide) (by decide)
  have HN := fun w1 h => name_bw w w1 h 36 (by decide) (by decide)
  have HB : BW w w := Below.refl _ _
  rw [show srt 36 = 7 by decide] at HS
  rw [show tx (nmO 36) = .string ⟨#[115, 117, 98]⟩ from rfl] at HN
  go_enter Tryd.func31, Tryd.ntmps31
  go_wp2_with (first
    | (go_at_call 19; refine (HS _ (by assumption)).mono ?_; rintro e w' ⟨rfl, hb⟩)
    | (go_at_call 18; refine (HN _ (by assumption)).mono ?_; rintro e w' ⟨rfl, hb⟩))
  go_ret
  exact ⟨ret_int (by decide), by first | assumption | exact BW.new (by assumption) _⟩
theorem tu_37 : TuAt 37 := by
  intro w
  have HS := fun w1 h => sort_bw w w1 h 37 (by decide) (by decide)
  have HN := fun w1 h => name_bw w w1 h 37 (by decide) (by decide)
  have HB : BW w w := Below.refl _ _
  rw [show srt 37 = 7 by decide] at HS
  rw [show tx (nmO 37) = .string ⟨#[115, 108, 108]⟩ from rfl] at HN
  go_enter Tryd.func49, Tryd.ntmps49
  go_wp2_with (first
    | (go_at_call 19; refine (HS _ (by assumption)).mono ?_; rintro e w' ⟨rfl, hb⟩)
    | (go_at_call 18; refine (HN _ (by assumption)).mono ?_; rintro e w' ⟨rfl, hb⟩))
  go_ret
  exact ⟨ret_bool (by decide), by first | assumption | exact BW.new (by assumption) _⟩
theorem sh_37 : ShAt 37 := by
  intro w
  have HS := fun w1 h => sort_bw w w1 h 37 (by decide) (by decide)
  have HN := fun w1 h => name_bw w w1 h 37 (by decide) (by decide)
  have HB : BW w w := Below.refl _ _
  rw [show srt 37 = 7 by decide] at HS
  rw [show tx (nmO 37) = .string ⟨#[115, 108, 108]⟩ from rfl] at HN
  go_enter Tryd.func31, Tryd.ntmps31
  go_wp2_with (first
    | (go_at_call 19; refine (HS _ (by assumption)).mono ?_; rintro e w' ⟨rfl, hb⟩)
    | (go_at_call 18; refine (HN _ (by assumption)).mono ?_; rintro e w' ⟨rfl, hb⟩))
  go_ret
  exact ⟨ret_int (by decide), by first | assumption | exact BW.new (by assumption) _⟩
theorem tu_38 : TuAt 38 := by
  intro w
  have HS := fun w1 h => sort_bw w w1 h 38 (by decide) (by decide)
  have HN := fun w1 h => name_bw w w1 h 38 (by decide) (by decide)
  have HB : BW w w := Below.refl _ _
  rw [show srt 38 = 7 by decide] at HS
  rw [show tx (nmO 38) = .string ⟨#[115, 108, 116]⟩ from rfl] at HN
  go_enter Tryd.func49, Tryd.ntmps49
  go_wp2_with (first
    | (go_at_call 19; refine (HS _ (by assumption)).mono ?_; rintro e w' ⟨rfl, hb⟩)
    | (go_at_call 18; refine (HN _ (by assumption)).mono ?_; rintro e w' ⟨rfl, hb⟩))
  go_ret
  exact ⟨ret_bool (by decide), by first | assumption | exact BW.new (by assumption) _⟩
theorem sh_38 : ShAt 38 := by
  intro w
  have HS := fun w1 h => sort_bw w w1 h 38 (by decide) (by decide)
  have HN := fun w1 h => name_bw w w1 h 38 (by decide) (by decide)
  have HB : BW w w := Below.refl _ _
  rw [show srt 38 = 7 by decide] at HS
  rw [show tx (nmO 38) = .string ⟨#[115, 108, 116]⟩ from rfl] at HN
  go_enter Tryd.func31, Tryd.ntmps31
  go_wp2_with (first
    | (go_at_call 19; refine (HS _ (by assumption)).mono ?_; rintro e w' ⟨rfl, hb⟩)
    | (go_at_call 18; refine (HN _ (by assumption)).mono ?_; rintro e w' ⟨rfl, hb⟩))
  go_ret
  exact ⟨ret_int (by decide), by first | assumption | exact BW.new (by assumption) _⟩
theorem tu_39 : TuAt 39 := by
  intro w
  have HS := fun w1 h => sort_bw w w1 h 39 (by decide) (by decide)
  have HN := fun w1 h => name_bw w w1 h 39 (by decide) (by decide)
  have HB : BW w w := Below.refl _ _
  rw [show srt 39 = 7 by decide] at HS
  rw [show tx (nmO 39) = .string ⟨#[115, 108, 116, 117]⟩ from rfl] at HN
  go_enter Tryd.func49, Tryd.ntmps49
  go_wp2_with (first
    | (go_at_call 19; refine (HS _ (by assumption)).mono ?_; rintro e w' ⟨rfl, hb⟩)
    | (go_at_call 18; refine (HN _ (by assumption)).mono ?_; rintro e w' ⟨rfl, hb⟩))
  go_ret
  exact ⟨ret_bool (by decide), by first | assumption | exact BW.new (by assumption) _⟩
theorem sh_39 : ShAt 39 := by
  intro w
  have HS := fun w1 h => sort_bw w w1 h 39 (by decide) (by decide)
  have HN := fun w1 h => name_bw w w1 h 39 (by decide) (by decide)
  have HB : BW w w := Below.refl _ _
  rw [show srt 39 = 7 by decide] at HS
  rw [show tx (nmO 39) = .string ⟨#[115, 108, 116, 117]⟩ from rfl] at HN
  go_enter Tryd.func31, Tryd.ntmps31
  go_wp2_with (first
    | (go_at_call 19; refine (HS _ (by assumption)).mono ?_; rintro e w' ⟨rfl, hb⟩)
    | (go_at_call 18; refine (HN _ (by assumption)).mono ?_; rintro e w' ⟨rfl, hb⟩))
  go_ret
  exact ⟨ret_int (by decide), by first | assumption | exact BW.new (by assumption) _⟩
theorem tu_40 : TuAt 40 := by
  intro w
  have HS := fun w1 h => sort_bw w w1 h 40 (by decide) (by decide)
  have HN := fun w1 h => name_bw w w1 h 40 (by decide) (by decide)
  have HB : BW w w := Below.refl _ _
  rw [show srt 40 = 7 by decide] at HS
  rw [show tx (nmO 40) = .string ⟨#[120, 111, 114]⟩ from rfl] at HN
  go_enter Tryd.func49, Tryd.ntmps49
  go_wp2_with (first
    | (go_at_call 19; refine (HS _ (by assumption)).mono ?_; rintro e w' ⟨rfl, hb⟩)
    | (go_at_call 18; refine (HN _ (by assumption)).mono ?_; rintro e w' ⟨rfl, hb⟩))
  go_ret
  exact ⟨ret_bool (by decide), by first | assumption | exact BW.new (by assumption) _⟩
theorem sh_40 : ShAt 40 := by
  intro w
  have HS := fun w1 h => sort_bw w w1 h 40 (by decide) (by decide)
  have HN := fun w1 h => name_bw w w1 h 40 (by decide) (by decide)
  have HB : BW w w := Below.refl _ _
  rw [show srt 40 = 7 by decide] at HS
  rw [show tx (nmO 40) = .string ⟨#[120, 111, 114]⟩ from rfl] at HN
  go_enter Tryd.func31, Tryd.ntmps31
  go_wp2_with (first
    | (go_at_call 19; refine (HS _ (by assumption)).mono ?_; rintro e w' ⟨rfl, hb⟩)
    | (go_at_call 18; refine (HN _ (by assumption)).mono ?_; rintro e w' ⟨rfl, hb⟩))
  go_ret
  exact ⟨ret_int (by decide), by first | assumption | exact BW.new (by assumption) _⟩
theorem tu_41 : TuAt 41 := by
  intro w
  have HS := fun w1 h => sort_bw w w1 h 41 (by decide) (by decide)
  have HN := fun w1 h => name_bw w w1 h 41 (by decide) (by decide)
  have HB : BW w w := Below.refl _ _
  rw [show srt 41 = 7 by decide] at HS
  rw [show tx (nmO 41) = .string ⟨#[115, 114, 108]⟩ from rfl] at HN
  go_enter Tryd.func49, Tryd.ntmps49
  go_wp2_with (first
    | (go_at_call 19; refine (HS _ (by assumption)).mono ?_; rintro e w' ⟨rfl, hb⟩)
    | (go_at_call 18; refine (HN _ (by assumption)).mono ?_; rintro e w' ⟨rfl, hb⟩))
  go_ret
  exact ⟨ret_bool (by decide), by first | assumption | exact BW.new (by assumption) _⟩
theorem sh_41 : ShAt 41 := by
  intro w
  have HS := fun w1 h => sort_bw w w1 h 41 (by decide) (by decide)
  have HN := fun w1 h => name_bw w w1 h 41 (by decide) (by decide)
  have HB : BW w w := Below.refl _ _
  rw [show srt 41 = 7 by decide] at HS
  rw [show tx (nmO 41) = .string ⟨#[115, 114, 108]⟩ from rfl] at HN
  go_enter Tryd.func31, Tryd.ntmps31
  go_wp2_with (first
    | (go_at_call 19; refine (HS _ (by assumption)).mono ?_; rintro e w' ⟨rfl, hb⟩)
    | (go_at_call 18; refine (HN _ (by assumption)).mono ?_; rintro e w' ⟨rfl, hb⟩))
  go_ret
  exact ⟨ret_int (by decide), by first | assumption | exact BW.new (by assumption) _⟩
theorem tu_42 : TuAt 42 := by
  intro w
  have HS := fun w1 h => sort_bw w w1 h 42 (by decide) (by decide)
  have HN := fun w1 h => name_bw w w1 h 42 (by decide) (by decide)
  have HB : BW w w := Below.refl _ _
  rw [show srt 42 = 7 by decide] at HS
  rw [show tx (nmO 42) = .string ⟨#[115, 114, 97]⟩ from rfl] at HN
  go_enter Tryd.func49, Tryd.ntmps49
  go_wp2_with (first
    | (go_at_call 19; refine (HS _ (by assumption)).mono ?_; rintro e w' ⟨rfl, hb⟩)
    | (go_at_call 18; refine (HN _ (by assumption)).mono ?_; rintro e w' ⟨rfl, hb⟩))
  go_ret
  exact ⟨ret_bool (by decide), by first | assumption | exact BW.new (by assumption) _⟩
theorem sh_42 : ShAt 42 := by
  intro w
  have HS := fun w1 h => sort_bw w w1 h 42 (by decide) (by decide)
  have HN := fun w1 h => name_bw w w1 h 42 (by decide) (by decide)
  have HB : BW w w := Below.refl _ _
  rw [show srt 42 = 7 by decide] at HS
  rw [show tx (nmO 42) = .string ⟨#[115, 114, 97]⟩ from rfl] at HN
  go_enter Tryd.func31, Tryd.ntmps31
  go_wp2_with (first
    | (go_at_call 19; refine (HS _ (by assumption)).mono ?_; rintro e w' ⟨rfl, hb⟩)
    | (go_at_call 18; refine (HN _ (by assumption)).mono ?_; rintro e w' ⟨rfl, hb⟩))
  go_ret
  exact ⟨ret_int (by decide), by first | assumption | exact BW.new (by assumption) _⟩
theorem tu_43 : TuAt 43 := by
  intro w
  have HS := fun w1 h => sort_bw w w1 h 43 (by decide) (by decide)
  have HN := fun w1 h => name_bw w w1 h 43 (by decide) (by decide)
  have HB : BW w w := Below.refl _ _
  rw [show srt 43 = 7 by decide] at HS
  rw [show tx (nmO 43) = .string ⟨#[111, 114]⟩ from rfl] at HN
  go_enter Tryd.func49, Tryd.ntmps49
  go_wp2_with (first
    | (go_at_call 19; refine (HS _ (by assumption)).mono ?_; rintro e w' ⟨rfl, hb⟩)
    | (go_at_call 18; refine (HN _ (by assumption)).mono ?_; rintro e w' ⟨rfl, hb⟩))
  go_ret
  exact ⟨ret_bool (by decide), by first | assumption | exact BW.new (by assumption) _⟩
theorem sh_43 : ShAt 43 := by
  intro w
  have HS := fun w1 h => sort_bw w w1 h 43 (by decide) (by decide)
  have HN := fun w1 h => name_bw w w1 h 43 (by decide) (by decide)
  have HB : BW w w := Below.refl _ _
  rw [show srt 43 = 7 by decide] at HS
  rw [show tx (nmO 43) = .string ⟨#[111, 114]⟩ from rfl] at HN
  go_enter Tryd.func31, Tryd.ntmps31
  go_wp2_with (first
    | (go_at_call 19; refine (HS _ (by assumption)).mono ?_; rintro e w' ⟨rfl, hb⟩)
    | (go_at_call 18; refine (HN _ (by assumption)).mono ?_; rintro e w' ⟨rfl, hb⟩))
  go_ret
  exact ⟨ret_int (by decide), by first | assumption | exact BW.new (by assumption) _⟩
theorem tu_44 : TuAt 44 := by
  intro w
  have HS := fun w1 h => sort_bw w w1 h 44 (by decide) (by decide)
  have HN := fun w1 h => name_bw w w1 h 44 (by decide) (by decide)
  have HB : BW w w := Below.refl _ _
  rw [show srt 44 = 7 by decide] at HS
  rw [show tx (nmO 44) = .string ⟨#[97, 110, 100]⟩ from rfl] at HN
  go_enter Tryd.func49, Tryd.ntmps49
  go_wp2_with (first
    | (go_at_call 19; refine (HS _ (by assumption)).mono ?_; rintro e w' ⟨rfl, hb⟩)
    | (go_at_call 18; refine (HN _ (by assumption)).mono ?_; rintro e w' ⟨rfl, hb⟩))
  go_ret
  exact ⟨ret_bool (by decide), by first | assumption | exact BW.new (by assumption) _⟩
theorem sh_44 : ShAt 44 := by
  intro w
  have HS := fun w1 h => sort_bw w w1 h 44 (by decide) (by decide)
  have HN := fun w1 h => name_bw w w1 h 44 (by decide) (by decide)
  have HB : BW w w := Below.refl _ _
  rw [show srt 44 = 7 by decide] at HS
  rw [show tx (nmO 44) = .string ⟨#[97, 110, 100]⟩ from rfl] at HN
  go_enter Tryd.func31, Tryd.ntmps31
  go_wp2_with (first
    | (go_at_call 19; refine (HS _ (by assumption)).mono ?_; rintro e w' ⟨rfl, hb⟩)
    | (go_at_call 18; refine (HN _ (by assumption)).mono ?_; rintro e w' ⟨rfl, hb⟩))
  go_ret
  exact ⟨ret_int (by decide), by first | assumption | exact BW.new (by assumption) _⟩
theorem tu_45 : TuAt 45 := by
  intro w
  have HS := fun w1 h => sort_bw w w1 h 45 (by decide) (by decide)
  have HN := fun w1 h => name_bw w w1 h 45 (by decide) (by decide)
  have HB : BW w w := Below.refl _ _
  rw [show srt 45 = 7 by decide] at HS
  rw [show tx (nmO 45) = .string ⟨#[97, 100, 100, 119]⟩ from rfl] at HN
  go_enter Tryd.func49, Tryd.ntmps49
  go_wp2_with (first
    | (go_at_call 19; refine (HS _ (by assumption)).mono ?_; rintro e w' ⟨rfl, hb⟩)
    | (go_at_call 18; refine (HN _ (by assumption)).mono ?_; rintro e w' ⟨rfl, hb⟩))
  go_ret
  exact ⟨ret_bool (by decide), by first | assumption | exact BW.new (by assumption) _⟩
theorem sh_45 : ShAt 45 := by
  intro w
  have HS := fun w1 h => sort_bw w w1 h 45 (by decide) (by decide)
  have HN := fun w1 h => name_bw w w1 h 45 (by decide) (by decide)
  have HB : BW w w := Below.refl _ _
  rw [show srt 45 = 7 by decide] at HS
  rw [show tx (nmO 45) = .string ⟨#[97, 100, 100, 119]⟩ from rfl] at HN
  go_enter Tryd.func31, Tryd.ntmps31
  go_wp2_with (first
    | (go_at_call 19; refine (HS _ (by assumption)).mono ?_; rintro e w' ⟨rfl, hb⟩)
    | (go_at_call 18; refine (HN _ (by assumption)).mono ?_; rintro e w' ⟨rfl, hb⟩))
  go_ret
  exact ⟨ret_int (by decide), by first | assumption | exact BW.new (by assumption) _⟩
theorem tu_46 : TuAt 46 := by
  intro w
  have HS := fun w1 h => sort_bw w w1 h 46 (by decide) (by decide)
  have HN := fun w1 h => name_bw w w1 h 46 (by decide) (by decide)
  have HB : BW w w := Below.refl _ _
  rw [show srt 46 = 7 by decide] at HS
  rw [show tx (nmO 46) = .string ⟨#[115, 117, 98, 119]⟩ from rfl] at HN
  go_enter Tryd.func49, Tryd.ntmps49
  go_wp2_with (first
    | (go_at_call 19; refine (HS _ (by assumption)).mono ?_; rintro e w' ⟨rfl, hb⟩)
    | (go_at_call 18; refine (HN _ (by assumption)).mono ?_; rintro e w' ⟨rfl, hb⟩))
  go_ret
  exact ⟨ret_bool (by decide), by first | assumption | exact BW.new (by assumption) _⟩
theorem sh_46 : ShAt 46 := by
  intro w
  have HS := fun w1 h => sort_bw w w1 h 46 (by decide) (by decide)
  have HN := fun w1 h => name_bw w w1 h 46 (by decide) (by decide)
  have HB : BW w w := Below.refl _ _
  rw [show srt 46 = 7 by decide] at HS
  rw [show tx (nmO 46) = .string ⟨#[115, 117, 98, 119]⟩ from rfl] at HN
  go_enter Tryd.func31, Tryd.ntmps31
  go_wp2_with (first
    | (go_at_call 19; refine (HS _ (by assumption)).mono ?_; rintro e w' ⟨rfl, hb⟩)
    | (go_at_call 18; refine (HN _ (by assumption)).mono ?_; rintro e w' ⟨rfl, hb⟩))
  go_ret
  exact ⟨ret_int (by decide), by first | assumption | exact BW.new (by assumption) _⟩
theorem tu_47 : TuAt 47 := by
  intro w
  have HS := fun w1 h => sort_bw w w1 h 47 (by decide) (by decide)
  have HN := fun w1 h => name_bw w w1 h 47 (by decide) (by decide)
  have HB : BW w w := Below.refl _ _
  rw [show srt 47 = 7 by decide] at HS
  rw [show tx (nmO 47) = .string ⟨#[115, 108, 108, 119]⟩ from rfl] at HN
  go_enter Tryd.func49, Tryd.ntmps49
  go_wp2_with (first
    | (go_at_call 19; refine (HS _ (by assumption)).mono ?_; rintro e w' ⟨rfl, hb⟩)
    | (go_at_call 18; refine (HN _ (by assumption)).mono ?_; rintro e w' ⟨rfl, hb⟩))
  go_ret
  exact ⟨ret_bool (by decide), by first | assumption | exact BW.new (by assumption) _⟩
theorem sh_47 : ShAt 47 := by
  intro w
  have HS := fun w1 h => sort_bw w w1 h 47 (by decide) (by decide)
  have HN := fun w1 h => name_bw w w1 h 47 (by decide) (by decide)
  have HB : BW w w := Below.refl _ _
  rw [show srt 47 = 7 by decide] at HS
  rw [show tx (nmO 47) = .string ⟨#[115, 108, 108, 119]⟩ from rfl] at HN
  go_enter Tryd.func31, Tryd.ntmps31
  go_wp2_with (first
    | (go_at_call 19; refine (HS _ (by assumption)).mono ?_; rintro e w' ⟨rfl, hb⟩)
    | (go_at_call 18; refine (HN _ (by assumption)).mono ?_; rintro e w' ⟨rfl, hb⟩))
  go_ret
  exact ⟨ret_int (by decide), by first | assumption | exact BW.new (by assumption) _⟩
theorem tu_48 : TuAt 48 := by
  intro w
  have HS := fun w1 h => sort_bw w w1 h 48 (by decide) (by decide)
  have HN := fun w1 h => name_bw w w1 h 48 (by decide) (by decide)
  have HB : BW w w := Below.refl _ _
  rw [show srt 48 = 7 by decide] at HS
  rw [show tx (nmO 48) = .string ⟨#[115, 114, 108, 119]⟩ from rfl] at HN
  go_enter Tryd.func49, Tryd.ntmps49
  go_wp2_with (first
    | (go_at_call 19; refine (HS _ (by assumption)).mono ?_; rintro e w' ⟨rfl, hb⟩)
    | (go_at_call 18; refine (HN _ (by assumption)).mono ?_; rintro e w' ⟨rfl, hb⟩))
  go_ret
  exact ⟨ret_bool (by decide), by first | assumption | exact BW.new (by assumption) _⟩
theorem sh_48 : ShAt 48 := by
  intro w
  have HS := fun w1 h => sort_bw w w1 h 48 (by decide) (by decide)
  have HN := fun w1 h => name_bw w w1 h 48 (by decide) (by decide)
  have HB : BW w w := Below.refl _ _
  rw [show srt 48 = 7 by decide] at HS
  rw [show tx (nmO 48) = .string ⟨#[115, 114, 108, 119]⟩ from rfl] at HN
  go_enter Tryd.func31, Tryd.ntmps31
  go_wp2_with (first
    | (go_at_call 19; refine (HS _ (by assumption)).mono ?_; rintro e w' ⟨rfl, hb⟩)
    | (go_at_call 18; refine (HN _ (by assumption)).mono ?_; rintro e w' ⟨rfl, hb⟩))
  go_ret
  exact ⟨ret_int (by decide), by first | assumption | exact BW.new (by assumption) _⟩
theorem tu_49 : TuAt 49 := by
  intro w
  have HS := fun w1 h => sort_bw w w1 h 49 (by decide) (by decide)
  have HN := fun w1 h => name_bw w w1 h 49 (by decide) (by decide)
  have HB : BW w w := Below.refl _ _
  rw [show srt 49 = 7 by decide] at HS
  rw [show tx (nmO 49) = .string ⟨#[115, 114, 97, 119]⟩ from rfl] at HN
  go_enter Tryd.func49, Tryd.ntmps49
  go_wp2_with (first
    | (go_at_call 19; refine (HS _ (by assumption)).mono ?_; rintro e w' ⟨rfl, hb⟩)
    | (go_at_call 18; refine (HN _ (by assumption)).mono ?_; rintro e w' ⟨rfl, hb⟩))
  go_ret
  exact ⟨ret_bool (by decide), by first | assumption | exact BW.new (by assumption) _⟩
theorem sh_49 : ShAt 49 := by
  intro w
  have HS := fun w1 h => sort_bw w w1 h 49 (by decide) (by decide)
  have HN := fun w1 h => name_bw w w1 h 49 (by decide) (by decide)
  have HB : BW w w := Below.refl _ _
  rw [show srt 49 = 7 by decide] at HS
  rw [show tx (nmO 49) = .string ⟨#[115, 114, 97, 119]⟩ from rfl] at HN
  go_enter Tryd.func31, Tryd.ntmps31
  go_wp2_with (first
    | (go_at_call 19; refine (HS _ (by assumption)).mono ?_; rintro e w' ⟨rfl, hb⟩)
    | (go_at_call 18; refine (HN _ (by assumption)).mono ?_; rintro e w' ⟨rfl, hb⟩))
  go_ret
  exact ⟨ret_int (by decide), by first | assumption | exact BW.new (by assumption) _⟩
theorem tu_50 : TuAt 50 := by
  intro w
  have HS := fun w1 h => sort_bw w w1 h 50 (by decide) (by decide)
  have HN := fun w1 h => name_bw w w1 h 50 (by decide) (by decide)
  have HB : BW w w := Below.refl _ _
  rw [show srt 50 = 8 by decide] at HS
  rw [show tx (nmO 50) = .string ⟨#[102, 101, 110, 99, 101]⟩ from rfl] at HN
  go_enter Tryd.func49, Tryd.ntmps49
  go_wp2_with (first
    | (go_at_call 19; refine (HS _ (by assumption)).mono ?_; rintro e w' ⟨rfl, hb⟩)
    | (go_at_call 18; refine (HN _ (by assumption)).mono ?_; rintro e w' ⟨rfl, hb⟩))
  go_ret
  exact ⟨ret_bool (by decide), by first | assumption | exact BW.new (by assumption) _⟩
theorem sh_50 : ShAt 50 := by
  intro w
  have HS := fun w1 h => sort_bw w w1 h 50 (by decide) (by decide)
  have HN := fun w1 h => name_bw w w1 h 50 (by decide) (by decide)
  have HB : BW w w := Below.refl _ _
  rw [show srt 50 = 8 by decide] at HS
  rw [show tx (nmO 50) = .string ⟨#[102, 101, 110, 99, 101]⟩ from rfl] at HN
  go_enter Tryd.func31, Tryd.ntmps31
  go_wp2_with (first
    | (go_at_call 19; refine (HS _ (by assumption)).mono ?_; rintro e w' ⟨rfl, hb⟩)
    | (go_at_call 18; refine (HN _ (by assumption)).mono ?_; rintro e w' ⟨rfl, hb⟩))
  go_ret
  exact ⟨ret_int (by decide), by first | assumption | exact BW.new (by assumption) _⟩
theorem tu_51 : TuAt 51 := by
  intro w
  have HS := fun w1 h => sort_bw w w1 h 51 (by decide) (by decide)
  have HN := fun w1 h => name_bw w w1 h 51 (by decide) (by decide)
  have HB : BW w w := Below.refl _ _
  rw [show srt 51 = 8 by decide] at HS
  rw [show tx (nmO 51) = .string ⟨#[102, 101, 110, 99, 101, 46, 116, 115, 111]⟩ from rfl] at HN
  go_enter Tryd.func49, Tryd.ntmps49
  go_wp2_with (first
    | (go_at_call 19; refine (HS _ (by assumption)).mono ?_; rintro e w' ⟨rfl, hb⟩)
    | (go_at_call 18; refine (HN _ (by assumption)).mono ?_; rintro e w' ⟨rfl, hb⟩))
  go_ret
  exact ⟨ret_bool (by decide), by first | assumption | exact BW.new (by assumption) _⟩
theorem sh_51 : ShAt 51 := by
  intro w
  have HS := fun w1 h => sort_bw w w1 h 51 (by decide) (by decide)
  have HN := fun w1 h => name_bw w w1 h 51 (by decide) (by decide)
  have HB : BW w w := Below.refl _ _
  rw [show srt 51 = 8 by decide] at HS
  rw [show tx (nmO 51) = .string ⟨#[102, 101, 110, 99, 101, 46, 116, 115, 111]⟩ from rfl] at HN
  go_enter Tryd.func31, Tryd.ntmps31
  go_wp2_with (first
    | (go_at_call 19; refine (HS _ (by assumption)).mono ?_; rintro e w' ⟨rfl, hb⟩)
    | (go_at_call 18; refine (HN _ (by assumption)).mono ?_; rintro e w' ⟨rfl, hb⟩))
  go_ret
  exact ⟨ret_int (by decide), by first | assumption | exact BW.new (by assumption) _⟩
theorem tu_52 : TuAt 52 := by
  intro w
  have HS := fun w1 h => sort_bw w w1 h 52 (by decide) (by decide)
  have HN := fun w1 h => name_bw w w1 h 52 (by decide) (by decide)
  have HB : BW w w := Below.refl _ _
  rw [show srt 52 = 9 by decide] at HS
  rw [show tx (nmO 52) = .string ⟨#[101, 99, 97, 108, 108]⟩ from rfl] at HN
  go_enter Tryd.func49, Tryd.ntmps49
  go_wp2_with (first
    | (go_at_call 19; refine (HS _ (by assumption)).mono ?_; rintro e w' ⟨rfl, hb⟩)
    | (go_at_call 18; refine (HN _ (by assumption)).mono ?_; rintro e w' ⟨rfl, hb⟩))
  go_ret
  exact ⟨ret_bool (by decide), by first | assumption | exact BW.new (by assumption) _⟩
theorem sh_52 : ShAt 52 := by
  intro w
  have HS := fun w1 h => sort_bw w w1 h 52 (by decide) (by decide)
  have HN := fun w1 h => name_bw w w1 h 52 (by decide) (by decide)
  have HB : BW w w := Below.refl _ _
  rw [show srt 52 = 9 by decide] at HS
  rw [show tx (nmO 52) = .string ⟨#[101, 99, 97, 108, 108]⟩ from rfl] at HN
  go_enter Tryd.func31, Tryd.ntmps31
  go_wp2_with (first
    | (go_at_call 19; refine (HS _ (by assumption)).mono ?_; rintro e w' ⟨rfl, hb⟩)
    | (go_at_call 18; refine (HN _ (by assumption)).mono ?_; rintro e w' ⟨rfl, hb⟩))
  go_ret
  exact ⟨ret_int (by decide), by first | assumption | exact BW.new (by assumption) _⟩
theorem tu_53 : TuAt 53 := by
  intro w
  have HS := fun w1 h => sort_bw w w1 h 53 (by decide) (by decide)
  have HN := fun w1 h => name_bw w w1 h 53 (by decide) (by decide)
  have HB : BW w w := Below.refl _ _
  rw [show srt 53 = 9 by decide] at HS
  rw [show tx (nmO 53) = .string ⟨#[101, 98, 114, 101, 97, 107]⟩ from rfl] at HN
  go_enter Tryd.func49, Tryd.ntmps49
  go_wp2_with (first
    | (go_at_call 19; refine (HS _ (by assumption)).mono ?_; rintro e w' ⟨rfl, hb⟩)
    | (go_at_call 18; refine (HN _ (by assumption)).mono ?_; rintro e w' ⟨rfl, hb⟩))
  go_ret
  exact ⟨ret_bool (by decide), by first | assumption | exact BW.new (by assumption) _⟩
theorem sh_53 : ShAt 53 := by
  intro w
  have HS := fun w1 h => sort_bw w w1 h 53 (by decide) (by decide)
  have HN := fun w1 h => name_bw w w1 h 53 (by decide) (by decide)
  have HB : BW w w := Below.refl _ _
  rw [show srt 53 = 9 by decide] at HS
  rw [show tx (nmO 53) = .string ⟨#[101, 98, 114, 101, 97, 107]⟩ from rfl] at HN
  go_enter Tryd.func31, Tryd.ntmps31
  go_wp2_with (first
    | (go_at_call 19; refine (HS _ (by assumption)).mono ?_; rintro e w' ⟨rfl, hb⟩)
    | (go_at_call 18; refine (HN _ (by assumption)).mono ?_; rintro e w' ⟨rfl, hb⟩))
  go_ret
  exact ⟨ret_int (by decide), by first | assumption | exact BW.new (by assumption) _⟩
theorem tu_54 : TuAt 54 := by
  intro w
  have HS := fun w1 h => sort_bw w w1 h 54 (by decide) (by decide)
  have HN := fun w1 h => name_bw w w1 h 54 (by decide) (by decide)
  have HB : BW w w := Below.refl _ _
  rw [show srt 54 = 10 by decide] at HS
  rw [show tx (nmO 54) = .string ⟨#[108, 114, 46, 119]⟩ from rfl] at HN
  go_enter Tryd.func49, Tryd.ntmps49
  go_wp2_with (first
    | (go_at_call 19; refine (HS _ (by assumption)).mono ?_; rintro e w' ⟨rfl, hb⟩)
    | (go_at_call 18; refine (HN _ (by assumption)).mono ?_; rintro e w' ⟨rfl, hb⟩))
  go_ret
  exact ⟨ret_bool (by decide), by first | assumption | exact BW.new (by assumption) _⟩
theorem sh_54 : ShAt 54 := by
  intro w
  have HS := fun w1 h => sort_bw w w1 h 54 (by decide) (by decide)
  have HN := fun w1 h => name_bw w w1 h 54 (by decide) (by decide)
  have HB : BW w w := Below.refl _ _
  rw [show srt 54 = 10 by decide] at HS
  rw [show tx (nmO 54) = .string ⟨#[108, 114, 46, 119]⟩ from rfl] at HN
  go_enter Tryd.func31, Tryd.ntmps31
  go_wp2_with (first
    | (go_at_call 19; refine (HS _ (by assumption)).mono ?_; rintro e w' ⟨rfl, hb⟩)
    | (go_at_call 18; refine (HN _ (by assumption)).mono ?_; rintro e w' ⟨rfl, hb⟩))
  go_ret
  exact ⟨ret_int (by decide), by first | assumption | exact BW.new (by assumption) _⟩
theorem tu_55 : TuAt 55 := by
  intro w
  have HS := fun w1 h => sort_bw w w1 h 55 (by decide) (by decide)
  have HN := fun w1 h => name_bw w w1 h 55 (by decide) (by decide)
  have HB : BW w w := Below.refl _ _
  rw [show srt 55 = 10 by decide] at HS
  rw [show tx (nmO 55) = .string ⟨#[108, 114, 46, 100]⟩ from rfl] at HN
  go_enter Tryd.func49, Tryd.ntmps49
  go_wp2_with (first
    | (go_at_call 19; refine (HS _ (by assumption)).mono ?_; rintro e w' ⟨rfl, hb⟩)
    | (go_at_call 18; refine (HN _ (by assumption)).mono ?_; rintro e w' ⟨rfl, hb⟩))
  go_ret
  exact ⟨ret_bool (by decide), by first | assumption | exact BW.new (by assumption) _⟩
theorem sh_55 : ShAt 55 := by
  intro w
  have HS := fun w1 h => sort_bw w w1 h 55 (by decide) (by decide)
  have HN := fun w1 h => name_bw w w1 h 55 (by decide) (by decide)
  have HB : BW w w := Below.refl _ _
  rw [show srt 55 = 10 by decide] at HS
  rw [show tx (nmO 55) = .string ⟨#[108, 114, 46, 100]⟩ from rfl] at HN
  go_enter Tryd.func31, Tryd.ntmps31
  go_wp2_with (first
    | (go_at_call 19; refine (HS _ (by assumption)).mono ?_; rintro e w' ⟨rfl, hb⟩)
    | (go_at_call 18; refine (HN _ (by assumption)).mono ?_; rintro e w' ⟨rfl, hb⟩))
  go_ret
  exact ⟨ret_int (by decide), by first | assumption | exact BW.new (by assumption) _⟩
theorem tu_56 : TuAt 56 := by
  intro w
  have HS := fun w1 h => sort_bw w w1 h 56 (by decide) (by decide)
  have HN := fun w1 h => name_bw w w1 h 56 (by decide) (by decide)
  have HB : BW w w := Below.refl _ _
  rw [show srt 56 = 11 by decide] at HS
  rw [show tx (nmO 56) = .string ⟨#[115, 99, 46, 119]⟩ from rfl] at HN
  go_enter Tryd.func49, Tryd.ntmps49
  go_wp2_with (first
    | (go_at_call 19; refine (HS _ (by assumption)).mono ?_; rintro e w' ⟨rfl, hb⟩)
    | (go_at_call 18; refine (HN _ (by assumption)).mono ?_; rintro e w' ⟨rfl, hb⟩))
  go_ret
  exact ⟨ret_bool (by decide), by first | assumption | exact BW.new (by assumption) _⟩
theorem sh_56 : ShAt 56 := by
  intro w
  have HS := fun w1 h => sort_bw w w1 h 56 (by decide) (by decide)
  have HN := fun w1 h => name_bw w w1 h 56 (by decide) (by decide)
  have HB : BW w w := Below.refl _ _
  rw [show srt 56 = 11 by decide] at HS
  rw [show tx (nmO 56) = .string ⟨#[115, 99, 46, 119]⟩ from rfl] at HN
  go_enter Tryd.func31, Tryd.ntmps31
  go_wp2_with (first
    | (go_at_call 19; refine (HS _ (by assumption)).mono ?_; rintro e w' ⟨rfl, hb⟩)
    | (go_at_call 18; refine (HN _ (by assumption)).mono ?_; rintro e w' ⟨rfl, hb⟩))
  go_ret
  exact ⟨ret_int (by decide), by first | assumption | exact BW.new (by assumption) _⟩
theorem tu_57 : TuAt 57 := by
  intro w
  have HS := fun w1 h => sort_bw w w1 h 57 (by decide) (by decide)
  have HN := fun w1 h => name_bw w w1 h 57 (by decide) (by decide)
  have HB : BW w w := Below.refl _ _
  rw [show srt 57 = 11 by decide] at HS
  rw [show tx (nmO 57) = .string ⟨#[115, 99, 46, 100]⟩ from rfl] at HN
  go_enter Tryd.func49, Tryd.ntmps49
  go_wp2_with (first
    | (go_at_call 19; refine (HS _ (by assumption)).mono ?_; rintro e w' ⟨rfl, hb⟩)
    | (go_at_call 18; refine (HN _ (by assumption)).mono ?_; rintro e w' ⟨rfl, hb⟩))
  go_ret
  exact ⟨ret_bool (by decide), by first | assumption | exact BW.new (by assumption) _⟩
theorem sh_57 : ShAt 57 := by
  intro w
  have HS := fun w1 h => sort_bw w w1 h 57 (by decide) (by decide)
  have HN := fun w1 h => name_bw w w1 h 57 (by decide) (by decide)
  have HB : BW w w := Below.refl _ _
  rw [show srt 57 = 11 by decide] at HS
  rw [show tx (nmO 57) = .string ⟨#[115, 99, 46, 100]⟩ from rfl] at HN
  go_enter Tryd.func31, Tryd.ntmps31
  go_wp2_with (first
    | (go_at_call 19; refine (HS _ (by assumption)).mono ?_; rintro e w' ⟨rfl, hb⟩)
    | (go_at_call 18; refine (HN _ (by assumption)).mono ?_; rintro e w' ⟨rfl, hb⟩))
  go_ret
  exact ⟨ret_int (by decide), by first | assumption | exact BW.new (by assumption) _⟩
theorem tu_58 : TuAt 58 := by
  intro w
  have HS := fun w1 h => sort_bw w w1 h 58 (by decide) (by decide)
  have HN := fun w1 h => name_bw w w1 h 58 (by decide) (by decide)
  have HB : BW w w := Below.refl _ _
  rw [show srt 58 = 12 by decide] at HS
  rw [show tx (nmO 58) = .string ⟨#[97, 109, 111, 115, 119, 97, 112, 46, 119]⟩ from rfl] at HN
  go_enter Tryd.func49, Tryd.ntmps49
  go_wp2_with (first
    | (go_at_call 19; refine (HS _ (by assumption)).mono ?_; rintro e w' ⟨rfl, hb⟩)
    | (go_at_call 18; refine (HN _ (by assumption)).mono ?_; rintro e w' ⟨rfl, hb⟩))
  go_ret
  exact ⟨ret_bool (by decide), by first | assumption | exact BW.new (by assumption) _⟩
theorem sh_58 : ShAt 58 := by
  intro w
  have HS := fun w1 h => sort_bw w w1 h 58 (by decide) (by decide)
  have HN := fun w1 h => name_bw w w1 h 58 (by decide) (by decide)
  have HB : BW w w := Below.refl _ _
  rw [show srt 58 = 12 by decide] at HS
  rw [show tx (nmO 58) = .string ⟨#[97, 109, 111, 115, 119, 97, 112, 46, 119]⟩ from rfl] at HN
  go_enter Tryd.func31, Tryd.ntmps31
  go_wp2_with (first
    | (go_at_call 19; refine (HS _ (by assumption)).mono ?_; rintro e w' ⟨rfl, hb⟩)
    | (go_at_call 18; refine (HN _ (by assumption)).mono ?_; rintro e w' ⟨rfl, hb⟩))
  go_ret
  exact ⟨ret_int (by decide), by first | assumption | exact BW.new (by assumption) _⟩
theorem tu_59 : TuAt 59 := by
  intro w
  have HS := fun w1 h => sort_bw w w1 h 59 (by decide) (by decide)
  have HN := fun w1 h => name_bw w w1 h 59 (by decide) (by decide)
  have HB : BW w w := Below.refl _ _
  rw [show srt 59 = 12 by decide] at HS
  rw [show tx (nmO 59) = .string ⟨#[97, 109, 111, 97, 100, 100, 46, 119]⟩ from rfl] at HN
  go_enter Tryd.func49, Tryd.ntmps49
  go_wp2_with (first
    | (go_at_call 19; refine (HS _ (by assumption)).mono ?_; rintro e w' ⟨rfl, hb⟩)
    | (go_at_call 18; refine (HN _ (by assumption)).mono ?_; rintro e w' ⟨rfl, hb⟩))
  go_ret
  exact ⟨ret_bool (by decide), by first | assumption | exact BW.new (by assumption) _⟩
theorem sh_59 : ShAt 59 := by
  intro w
  have HS := fun w1 h => sort_bw w w1 h 59 (by decide) (by decide)
  have HN := fun w1 h => name_bw w w1 h 59 (by decide) (by decide)
  have HB : BW w w := Below.refl _ _
  rw [show srt 59 = 12 by decide] at HS
  rw [show tx (nmO 59) = .string ⟨#[97, 109, 111, 97, 100, 100, 46, 119]⟩ from rfl] at HN
  go_enter Tryd.func31, Tryd.ntmps31
  go_wp2_with (first
    | (go_at_call 19; refine (HS _ (by assumption)).mono ?_; rintro e w' ⟨rfl, hb⟩)
    | (go_at_call 18; refine (HN _ (by assumption)).mono ?_; rintro e w' ⟨rfl, hb⟩))
  go_ret
  exact ⟨ret_int (by decide), by first | assumption | exact BW.new (by assumption) _⟩
theorem tu_60 : TuAt 60 := by
  intro w
  have HS := fun w1 h => sort_bw w w1 h 60 (by decide) (by decide)
  have HN := fun w1 h => name_bw w w1 h 60 (by decide) (by decide)
  have HB : BW w w := Below.refl _ _
  rw [show srt 60 = 12 by decide] at HS
  rw [show tx (nmO 60) = .string ⟨#[97, 109, 111, 120, 111, 114, 46, 119]⟩ from rfl] at HN
  go_enter Tryd.func49, Tryd.ntmps49
  go_wp2_with (first
    | (go_at_call 19; refine (HS _ (by assumption)).mono ?_; rintro e w' ⟨rfl, hb⟩)
    | (go_at_call 18; refine (HN _ (by assumption)).mono ?_; rintro e w' ⟨rfl, hb⟩))
  go_ret
  exact ⟨ret_bool (by decide), by first | assumption | exact BW.new (by assumption) _⟩
theorem sh_60 : ShAt 60 := by
  intro w
  have HS := fun w1 h => sort_bw w w1 h 60 (by decide) (by decide)
  have HN := fun w1 h => name_bw w w1 h 60 (by decide) (by decide)
  have HB : BW w w := Below.refl _ _
  rw [show srt 60 = 12 by decide] at HS
  rw [show tx (nmO 60) = .string ⟨#[97, 109, 111, 120, 111, 114, 46, 119]⟩ from rfl] at HN
  go_enter Tryd.func31, Tryd.ntmps31
  go_wp2_with (first
    | (go_at_call 19; refine (HS _ (by assumption)).mono ?_; rintro e w' ⟨rfl, hb⟩)
    | (go_at_call 18; refine (HN _ (by assumption)).mono ?_; rintro e w' ⟨rfl, hb⟩))
  go_ret
  exact ⟨ret_int (by decide), by first | assumption | exact BW.new (by assumption) _⟩
theorem tu_61 : TuAt 61 := by
  intro w
  have HS := fun w1 h => sort_bw w w1 h 61 (by decide) (by decide)
  have HN := fun w1 h => name_bw w w1 h 61 (by decide) (by decide)
  have HB : BW w w := Below.refl _ _
  rw [show srt 61 = 12 by decide] at HS
  rw [show tx (nmO 61) = .string ⟨#[97, 109, 111, 97, 110, 100, 46, 119]⟩ from rfl] at HN
  go_enter Tryd.func49, Tryd.ntmps49
  go_wp2_with (first
    | (go_at_call 19; refine (HS _ (by assumption)).mono ?_; rintro e w' ⟨rfl, hb⟩)
    | (go_at_call 18; refine (HN _ (by assumption)).mono ?_; rintro e w' ⟨rfl, hb⟩))
  go_ret
  exact ⟨ret_bool (by decide), by first | assumption | exact BW.new (by assumption) _⟩
theorem sh_61 : ShAt 61 := by
  intro w
  have HS := fun w1 h => sort_bw w w1 h 61 (by decide) (by decide)
  have HN := fun w1 h => name_bw w w1 h 61 (by decide) (by decide)
  have HB : BW w w := Below.refl _ _
  rw [show srt 61 = 12 by decide] at HS
  rw [show tx (nmO 61) = .string ⟨#[97, 109, 111, 97, 110, 100, 46, 119]⟩ from rfl] at HN
  go_enter Tryd.func31, Tryd.ntmps31
  go_wp2_with (first
    | (go_at_call 19; refine (HS _ (by assumption)).mono ?_; rintro e w' ⟨rfl, hb⟩)
    | (go_at_call 18; refine (HN _ (by assumption)).mono ?_; rintro e w' ⟨rfl, hb⟩))
  go_ret
  exact ⟨ret_int (by decide), by first | assumption | exact BW.new (by assumption) _⟩
theorem tu_62 : TuAt 62 := by
  intro w
  have HS := fun w1 h => sort_bw w w1 h 62 (by decide) (by decide)
  have HN := fun w1 h => name_bw w w1 h 62 (by decide) (by decide)
  have HB : BW w w := Below.refl _ _
  rw [show srt 62 = 12 by decide] at HS
  rw [show tx (nmO 62) = .string ⟨#[97, 109, 111, 111, 114, 46, 119]⟩ from rfl] at HN
  go_enter Tryd.func49, Tryd.ntmps49
  go_wp2_with (first
    | (go_at_call 19; refine (HS _ (by assumption)).mono ?_; rintro e w' ⟨rfl, hb⟩)
    | (go_at_call 18; refine (HN _ (by assumption)).mono ?_; rintro e w' ⟨rfl, hb⟩))
  go_ret
  exact ⟨ret_bool (by decide), by first | assumption | exact BW.new (by assumption) _⟩
theorem sh_62 : ShAt 62 := by
  intro w
  have HS := fun w1 h => sort_bw w w1 h 62 (by decide) (by decide)
  have HN := fun w1 h => name_bw w w1 h 62 (by decide) (by decide)
  have HB : BW w w := Below.refl _ _
  rw [show srt 62 = 12 by decide] at HS
  rw [show tx (nmO 62) = .string ⟨#[97, 109, 111, 111, 114, 46, 119]⟩ from rfl] at HN
  go_enter Tryd.func31, Tryd.ntmps31
  go_wp2_with (first
    | (go_at_call 19; refine (HS _ (by assumption)).mono ?_; rintro e w' ⟨rfl, hb⟩)
    | (go_at_call 18; refine (HN _ (by assumption)).mono ?_; rintro e w' ⟨rfl, hb⟩))
  go_ret
  exact ⟨ret_int (by decide), by first | assumption | exact BW.new (by assumption) _⟩
theorem tu_63 : TuAt 63 := by
  intro w
  have HS := fun w1 h => sort_bw w w1 h 63 (by decide) (by decide)
  have HN := fun w1 h => name_bw w w1 h 63 (by decide) (by decide)
  have HB : BW w w := Below.refl _ _
  rw [show srt 63 = 12 by decide] at HS
  rw [show tx (nmO 63) = .string ⟨#[97, 109, 111, 109, 105, 110, 46, 119]⟩ from rfl] at HN
  go_enter Tryd.func49, Tryd.ntmps49
  go_wp2_with (first
    | (go_at_call 19; refine (HS _ (by assumption)).mono ?_; rintro e w' ⟨rfl, hb⟩)
    | (go_at_call 18; refine (HN _ (by assumption)).mono ?_; rintro e w' ⟨rfl, hb⟩))
  go_ret
  exact ⟨ret_bool (by decide), by first | assumption | exact BW.new (by assumption) _⟩
theorem sh_63 : ShAt 63 := by
  intro w
  have HS := fun w1 h => sort_bw w w1 h 63 (by decide) (by decide)
  have HN := fun w1 h => name_bw w w1 h 63 (by decide) (by decide)
  have HB : BW w w := Below.refl _ _
  rw [show srt 63 = 12 by decide] at HS
  rw [show tx (nmO 63) = .string ⟨#[97, 109, 111, 109, 105, 110, 46, 119]⟩ from rfl] at HN
  go_enter Tryd.func31, Tryd.ntmps31
  go_wp2_with (first
    | (go_at_call 19; refine (HS _ (by assumption)).mono ?_; rintro e w' ⟨rfl, hb⟩)
    | (go_at_call 18; refine (HN _ (by assumption)).mono ?_; rintro e w' ⟨rfl, hb⟩))
  go_ret
  exact ⟨ret_int (by decide), by first | assumption | exact BW.new (by assumption) _⟩
theorem tu_64 : TuAt 64 := by
  intro w
  have HS := fun w1 h => sort_bw w w1 h 64 (by decide) (by decide)
  have HN := fun w1 h => name_bw w w1 h 64 (by decide) (by decide)
  have HB : BW w w := Below.refl _ _
  rw [show srt 64 = 12 by decide] at HS
  rw [show tx (nmO 64) = .string ⟨#[97, 109, 111, 109, 97, 120, 46, 119]⟩ from rfl] at HN
  go_enter Tryd.func49, Tryd.ntmps49
  go_wp2_with (first
    | (go_at_call 19; refine (HS _ (by assumption)).mono ?_; rintro e w' ⟨rfl, hb⟩)
    | (go_at_call 18; refine (HN _ (by assumption)).mono ?_; rintro e w' ⟨rfl, hb⟩))
  go_ret
  exact ⟨ret_bool (by decide), by first | assumption | exact BW.new (by assumption) _⟩
theorem sh_64 : ShAt 64 := by
  intro w
  have HS := fun w1 h => sort_bw w w1 h 64 (by decide) (by decide)
  have HN := fun w1 h => name_bw w w1 h 64 (by decide) (by decide)
  have HB : BW w w := Below.refl _ _
  rw [show srt 64 = 12 by decide] at HS
  rw [show tx (nmO 64) = .string ⟨#[97, 109, 111, 109, 97, 120, 46, 119]⟩ from rfl] at HN
  go_enter Tryd.func31, Tryd.ntmps31
  go_wp2_with (first
    | (go_at_call 19; refine (HS _ (by assumption)).mono ?_; rintro e w' ⟨rfl, hb⟩)
    | (go_at_call 18; refine (HN _ (by assumption)).mono ?_; rintro e w' ⟨rfl, hb⟩))
  go_ret
  exact ⟨ret_int (by decide), by first | assumption | exact BW.new (by assumption) _⟩
theorem tu_65 : TuAt 65 := by
  intro w
  have HS := fun w1 h => sort_bw w w1 h 65 (by decide) (by decide)
  have HN := fun w1 h => name_bw w w1 h 65 (by decide) (by decide)
  have HB : BW w w := Below.refl _ _
  rw [show srt 65 = 12 by decide] at HS
  rw [show tx (nmO 65) = .string ⟨#[97, 109, 111, 109, 105, 110, 117, 46, 119]⟩ from rfl] at HN
  go_enter Tryd.func49, Tryd.ntmps49
  go_wp2_with (first
    | (go_at_call 19; refine (HS _ (by assumption)).mono ?_; rintro e w' ⟨rfl, hb⟩)
    | (go_at_call 18; refine (HN _ (by assumption)).mono ?_; rintro e w' ⟨rfl, hb⟩))
  go_ret
  exact ⟨ret_bool (by decide), by first | assumption | exact BW.new (by assumption) _⟩
theorem sh_65 : ShAt 65 := by
  intro w
  have HS := fun w1 h => sort_bw w w1 h 65 (by decide) (by decide)
  have HN := fun w1 h => name_bw w w1 h 65 (by decide) (by decide)
  have HB : BW w w := Below.refl _ _
  rw [show srt 65 = 12 by decide] at HS
  rw [show tx (nmO 65) = .string ⟨#[97, 109, 111, 109, 105, 110, 117, 46, 119]⟩ from rfl] at HN
  go_enter Tryd.func31, Tryd.ntmps31
  go_wp2_with (first
    | (go_at_call 19; refine (HS _ (by assumption)).mono ?_; rintro e w' ⟨rfl, hb⟩)
    | (go_at_call 18; refine (HN _ (by assumption)).mono ?_; rintro e w' ⟨rfl, hb⟩))
  go_ret
  exact ⟨ret_int (by decide), by first | assumption | exact BW.new (by assumption) _⟩
theorem tu_66 : TuAt 66 := by
  intro w
  have HS := fun w1 h => sort_bw w w1 h 66 (by decide) (by decide)
  have HN := fun w1 h => name_bw w w1 h 66 (by decide) (by decide)
  have HB : BW w w := Below.refl _ _
  rw [show srt 66 = 12 by decide] at HS
  rw [show tx (nmO 66) = .string ⟨#[97, 109, 111, 109, 97, 120, 117, 46, 119]⟩ from rfl] at HN
  go_enter Tryd.func49, Tryd.ntmps49
  go_wp2_with (first
    | (go_at_call 19; refine (HS _ (by assumption)).mono ?_; rintro e w' ⟨rfl, hb⟩)
    | (go_at_call 18; refine (HN _ (by assumption)).mono ?_; rintro e w' ⟨rfl, hb⟩))
  go_ret
  exact ⟨ret_bool (by decide), by first | assumption | exact BW.new (by assumption) _⟩
theorem sh_66 : ShAt 66 := by
  intro w
  have HS := fun w1 h => sort_bw w w1 h 66 (by decide) (by decide)
  have HN := fun w1 h => name_bw w w1 h 66 (by decide) (by decide)
  have HB : BW w w := Below.refl _ _
  rw [show srt 66 = 12 by decide] at HS
  rw [show tx (nmO 66) = .string ⟨#[97, 109, 111, 109, 97, 120, 117, 46, 119]⟩ from rfl] at HN
  go_enter Tryd.func31, Tryd.ntmps31
  go_wp2_with (first
    | (go_at_call 19; refine (HS _ (by assumption)).mono ?_; rintro e w' ⟨rfl, hb⟩)
    | (go_at_call 18; refine (HN _ (by assumption)).mono ?_; rintro e w' ⟨rfl, hb⟩))
  go_ret
  exact ⟨ret_int (by decide), by first | assumption | exact BW.new (by assumption) _⟩
theorem tu_67 : TuAt 67 := by
  intro w
  have HS := fun w1 h => sort_bw w w1 h 67 (by decide) (by decide)
  have HN := fun w1 h => name_bw w w1 h 67 (by decide) (by decide)
  have HB : BW w w := Below.refl _ _
  rw [show srt 67 = 12 by decide] at HS
  rw [show tx (nmO 67) = .string ⟨#[97, 109, 111, 115, 119, 97, 112, 46, 100]⟩ from rfl] at HN
  go_enter Tryd.func49, Tryd.ntmps49
  go_wp2_with (first
    | (go_at_call 19; refine (HS _ (by assumption)).mono ?_; rintro e w' ⟨rfl, hb⟩)
    | (go_at_call 18; refine (HN _ (by assumption)).mono ?_; rintro e w' ⟨rfl, hb⟩))
  go_ret
  exact ⟨ret_bool (by decide), by first | assumption | exact BW.new (by assumption) _⟩
theorem sh_67 : ShAt 67 := by
  intro w
  have HS := fun w1 h => sort_bw w w1 h 67 (by decide) (by decide)
  have HN := fun w1 h => name_bw w w1 h 67 (by decide) (by decide)
  have HB : BW w w := Below.refl _ _
  rw [show srt 67 = 12 by decide] at HS
  rw [show tx (nmO 67) = .string ⟨#[97, 109, 111, 115, 119, 97, 112, 46, 100]⟩ from rfl] at HN
  go_enter Tryd.func31, Tryd.ntmps31
  go_wp2_with (first
    | (go_at_call 19; refine (HS _ (by assumption)).mono ?_; rintro e w' ⟨rfl, hb⟩)
    | (go_at_call 18; refine (HN _ (by assumption)).mono ?_; rintro e w' ⟨rfl, hb⟩))
  go_ret
  exact ⟨ret_int (by decide), by first | assumption | exact BW.new (by assumption) _⟩
theorem tu_68 : TuAt 68 := by
  intro w
  have HS := fun w1 h => sort_bw w w1 h 68 (by decide) (by decide)
  have HN := fun w1 h => name_bw w w1 h 68 (by decide) (by decide)
  have HB : BW w w := Below.refl _ _
  rw [show srt 68 = 12 by decide] at HS
  rw [show tx (nmO 68) = .string ⟨#[97, 109, 111, 97, 100, 100, 46, 100]⟩ from rfl] at HN
  go_enter Tryd.func49, Tryd.ntmps49
  go_wp2_with (first
    | (go_at_call 19; refine (HS _ (by assumption)).mono ?_; rintro e w' ⟨rfl, hb⟩)
    | (go_at_call 18; refine (HN _ (by assumption)).mono ?_; rintro e w' ⟨rfl, hb⟩))
  go_ret
  exact ⟨ret_bool (by decide), by first | assumption | exact BW.new (by assumption) _⟩
theorem sh_68 : ShAt 68 := by
  intro w
  have HS := fun w1 h => sort_bw w w1 h 68 (by decide) (by decide)
  have HN := fun w1 h => name_bw w w1 h 68 (by decide) (by decide)
  have HB : BW w w := Below.refl _ _
  rw [show srt 68 = 12 by decide] at HS
  rw [show tx (nmO 68) = .string ⟨#[97, 109, 111, 97, 100, 100, 46, 100]⟩ from rfl] at HN
  go_enter Tryd.func31, Tryd.ntmps31
  go_wp2_with (first
    | (go_at_call 19; refine (HS _ (by assumption)).mono ?_; rintro e w' ⟨rfl, hb⟩)
    | (go_at_call 18; refine (HN _ (by assumption)).mono ?_; rintro e w' ⟨rfl, hb⟩))
  go_ret
  exact ⟨ret_int (by decide), by first | assumption | exact BW.new (by assumption) _⟩
theorem tu_69 : TuAt 69 := by
  intro w
  have HS := fun w1 h => sort_bw w w1 h 69 (by decide) (by decide)
  have HN := fun w1 h => name_bw w w1 h 69 (by decide) (by decide)
  have HB : BW w w := Below.refl _ _
  rw [show srt 69 = 12 by decide] at HS
  rw [show tx (nmO 69) = .string ⟨#[97, 109, 111, 120, 111, 114, 46, 100]⟩ from rfl] at HN
  go_enter Tryd.func49, Tryd.ntmps49
  go_wp2_with (first
    | (go_at_call 19; refine (HS _ (by assumption)).mono ?_; rintro e w' ⟨rfl, hb⟩)
    | (go_at_call 18; refine (HN _ (by assumption)).mono ?_; rintro e w' ⟨rfl, hb⟩))
  go_ret
  exact ⟨ret_bool (by decide), by first | assumption | exact BW.new (by assumption) _⟩
theorem sh_69 : ShAt 69 := by
  intro w
  have HS := fun w1 h => sort_bw w w1 h 69 (by decide) (by decide)
  have HN := fun w1 h => name_bw w w1 h 69 (by decide) (by decide)
  have HB : BW w w := Below.refl _ _
  rw [show srt 69 = 12 by decide] at HS
  rw [show tx (nmO 69) = .string ⟨#[97, 109, 111, 120, 111, 114, 46, 100]⟩ from rfl] at HN
  go_enter Tryd.func31, Tryd.ntmps31
  go_wp2_with (first
    | (go_at_call 19; refine (HS _ (by assumption)).mono ?_; rintro e w' ⟨rfl, hb⟩)
    | (go_at_call 18; refine (HN _ (by assumption)).mono ?_; rintro e w' ⟨rfl, hb⟩))
  go_ret
  exact ⟨ret_int (by decide), by first | assumption | exact BW.new (by assumption) _⟩
theorem tu_70 : TuAt 70 := by
  intro w
  have HS := fun w1 h => sort_bw w w1 h 70 (by decide) (by decide)
  have HN := fun w1 h => name_bw w w1 h 70 (by decide) (by decide)
  have HB : BW w w := Below.refl _ _
  rw [show srt 70 = 12 by decide] at HS
  rw [show tx (nmO 70) = .string ⟨#[97, 109, 111, 97, 110, 100, 46, 100]⟩ from rfl] at HN
  go_enter Tryd.func49, Tryd.ntmps49
  go_wp2_with (first
    | (go_at_call 19; refine (HS _ (by assumption)).mono ?_; rintro e w' ⟨rfl, hb⟩)
    | (go_at_call 18; refine (HN _ (by assumption)).mono ?_; rintro e w' ⟨rfl, hb⟩))
  go_ret
  exact ⟨ret_bool (by decide), by first | assumption | exact BW.new (by assumption) _⟩
theorem sh_70 : ShAt 70 := by
  intro w
  have HS := fun w1 h => sort_bw w w1 h 70 (by decide) (by decide)
  have HN := fun w1 h => name_bw w w1 h 70 (by decide) (by decide)
  have HB : BW w w := Below.refl _ _
  rw [show srt 70 = 12 by decide] at HS
  rw [show tx (nmO 70) = .string ⟨#[97, 109, 111, 97, 110, 100, 46, 100]⟩ from rfl] at HN
  go_enter Tryd.func31, Tryd.ntmps31
  go_wp2_with (first
    | (go_at_call 19; refine (HS _ (by assumption)).mono ?_; rintro e w' ⟨rfl, hb⟩)
    | (go_at_call 18; refine (HN _ (by assumption)).mono ?_; rintro e w' ⟨rfl, hb⟩))
  go_ret
  exact ⟨ret_int (by decide), by first | assumption | exact BW.new (by assumption) _⟩
theorem tu_71 : TuAt 71 := by
  intro w
  have HS := fun w1 h => sort_bw w w1 h 71 (by decide) (by decide)
  have HN := fun w1 h => name_bw w w1 h 71 (by decide) (by decide)
  have HB : BW w w := Below.refl _ _
  rw [show srt 71 = 12 by decide] at HS
  rw [show tx (nmO 71) = .string ⟨#[97, 109, 111, 111, 114, 46, 100]⟩ from rfl] at HN
  go_enter Tryd.func49, Tryd.ntmps49
  go_wp2_with (first
    | (go_at_call 19; refine (HS _ (by assumption)).mono ?_; rintro e w' ⟨rfl, hb⟩)
    | (go_at_call 18; refine (HN _ (by assumption)).mono ?_; rintro e w' ⟨rfl, hb⟩))
  go_ret
  exact ⟨ret_bool (by decide), by first | assumption | exact BW.new (by assumption) _⟩
theorem sh_71 : ShAt 71 := by
  intro w
  have HS := fun w1 h => sort_bw w w1 h 71 (by decide) (by decide)
  have HN := fun w1 h => name_bw w w1 h 71 (by decide) (by decide)
  have HB : BW w w := Below.refl _ _
  rw [show srt 71 = 12 by decide] at HS
  rw [show tx (nmO 71) = .string ⟨#[97, 109, 111, 111, 114, 46, 100]⟩ from rfl] at HN
  go_enter Tryd.func31, Tryd.ntmps31
  go_wp2_with (first
    | (go_at_call 19; refine (HS _ (by assumption)).mono ?_; rintro e w' ⟨rfl, hb⟩)
    | (go_at_call 18; refine (HN _ (by assumption)).mono ?_; rintro e w' ⟨rfl, hb⟩))
  go_ret
  exact ⟨ret_int (by decide), by first | assumption | exact BW.new (by assumption) _⟩
theorem tu_72 : TuAt 72 := by
  intro w
  have HS := fun w1 h => sort_bw w w1 h 72 (by decide) (by decide)
  have HN := fun w1 h => name_bw w w1 h 72 (by decide) (by decide)
  have HB : BW w w := Below.refl _ _
  rw [show srt 72 = 12 by decide] at HS
  rw [show tx (nmO 72) = .string ⟨#[97, 109, 111, 109, 105, 110, 46, 100]⟩ from rfl] at HN
  go_enter Tryd.func49, Tryd.ntmps49
  go_wp2_with (first
    | (go_at_call 19; refine (HS _ (by assumption)).mono ?_; rintro e w' ⟨rfl, hb⟩)
    | (go_at_call 18; refine (HN _ (by assumption)).mono ?_; rintro e w' ⟨rfl, hb⟩))
  go_ret
  exact ⟨ret_bool (by decide), by first | assumption | exact BW.new (by assumption) _⟩
theorem sh_72 : ShAt 72 := by
  intro w
  have HS := fun w1 h => sort_bw w w1 h 72 (by decide) (by decide)
  have HN := fun w1 h => name_bw w w1 h 72 (by decide) (by decide)
  have HB : BW w w := Below.refl _ _
  rw [show srt 72 = 12 by decide] at HS
  rw [show tx (nmO 72) = .string ⟨#[97, 109, 111, 109, 105, 110, 46, 100]⟩ from rfl] at HN
  go_enter Tryd.func31, Tryd.ntmps31
  go_wp2_with (first
    | (go_at_call 19; refine (HS _ (by assumption)).mono ?_; rintro e w' ⟨rfl, hb⟩)
    | (go_at_call 18; refine (HN _ (by assumption)).mono ?_; rintro e w' ⟨rfl, hb⟩))
  go_ret
  exact ⟨ret_int (by decide), by first | assumption | exact BW.new (by assumption) _⟩
theorem tu_73 : TuAt 73 := by
  intro w
  have HS := fun w1 h => sort_bw w w1 h 73 (by decide) (by decide)
  have HN := fun w1 h => name_bw w w1 h 73 (by decide) (by decide)
  have HB : BW w w := Below.refl _ _
  rw [show srt 73 = 12 by decide] at HS
  rw [show tx (nmO 73) = .string ⟨#[97, 109, 111, 109, 97, 120, 46, 100]⟩ from rfl] at HN
  go_enter Tryd.func49, Tryd.ntmps49
  go_wp2_with (first
    | (go_at_call 19; refine (HS _ (by assumption)).mono ?_; rintro e w' ⟨rfl, hb⟩)
    | (go_at_call 18; refine (HN _ (by assumption)).mono ?_; rintro e w' ⟨rfl, hb⟩))
  go_ret
  exact ⟨ret_bool (by decide), by first | assumption | exact BW.new (by assumption) _⟩
theorem sh_73 : ShAt 73 := by
  intro w
  have HS := fun w1 h => sort_bw w w1 h 73 (by decide) (by decide)
  have HN := fun w1 h => name_bw w w1 h 73 (by decide) (by decide)
  have HB : BW w w := Below.refl _ _
  rw [show srt 73 = 12 by decide] at HS
  rw [show tx (nmO 73) = .string ⟨#[97, 109, 111, 109, 97, 120, 46, 100]⟩ from rfl] at HN
  go_enter Tryd.func31, Tryd.ntmps31
  go_wp2_with (first
    | (go_at_call 19; refine (HS _ (by assumption)).mono ?_; rintro e w' ⟨rfl, hb⟩)
    | (go_at_call 18; refine (HN _ (by assumption)).mono ?_; rintro e w' ⟨rfl, hb⟩))
  go_ret
  exact ⟨ret_int (by decide), by first | assumption | exact BW.new (by assumption) _⟩
theorem tu_74 : TuAt 74 := by
  intro w
  have HS := fun w1 h => sort_bw w w1 h 74 (by decide) (by decide)
  have HN := fun w1 h => name_bw w w1 h 74 (by decide) (by decide)
  have HB : BW w w := Below.refl _ _
  rw [show srt 74 = 12 by decide] at HS
  rw [show tx (nmO 74) = .string ⟨#[97, 109, 111, 109, 105, 110, 117, 46, 100]⟩ from rfl] at HN
  go_enter Tryd.func49, Tryd.ntmps49
  go_wp2_with (first
    | (go_at_call 19; refine (HS _ (by assumption)).mono ?_; rintro e w' ⟨rfl, hb⟩)
    | (go_at_call 18; refine (HN _ (by assumption)).mono ?_; rintro e w' ⟨rfl, hb⟩))
  go_ret
  exact ⟨ret_bool (by decide), by first | assumption | exact BW.new (by assumption) _⟩
theorem sh_74 : ShAt 74 := by
  intro w
  have HS := fun w1 h => sort_bw w w1 h 74 (by decide) (by decide)
  have HN := fun w1 h => name_bw w w1 h 74 (by decide) (by decide)
  have HB : BW w w := Below.refl _ _
  rw [show srt 74 = 12 by decide] at HS
  rw [show tx (nmO 74) = .string ⟨#[97, 109, 111, 109, 105, 110, 117, 46, 100]⟩ from rfl] at HN
  go_enter Tryd.func31, Tryd.ntmps31
  go_wp2_with (first
    | (go_at_call 19; refine (HS _ (by assumption)).mono ?_; rintro e w' ⟨rfl, hb⟩)
    | (go_at_call 18; refine (HN _ (by assumption)).mono ?_; rintro e w' ⟨rfl, hb⟩))
  go_ret
  exact ⟨ret_int (by decide), by first | assumption | exact BW.new (by assumption) _⟩
theorem tu_75 : TuAt 75 := by
  intro w
  have HS := fun w1 h => sort_bw w w1 h 75 (by decide) (by decide)
  have HN := fun w1 h => name_bw w w1 h 75 (by decide) (by decide)
  have HB : BW w w := Below.refl _ _
  rw [show srt 75 = 12 by decide] at HS
  rw [show tx (nmO 75) = .string ⟨#[97, 109, 111, 109, 97, 120, 117, 46, 100]⟩ from rfl] at HN
  go_enter Tryd.func49, Tryd.ntmps49
  go_wp2_with (first
    | (go_at_call 19; refine (HS _ (by assumption)).mono ?_; rintro e w' ⟨rfl, hb⟩)
    | (go_at_call 18; refine (HN _ (by assumption)).mono ?_; rintro e w' ⟨rfl, hb⟩))
  go_ret
  exact ⟨ret_bool (by decide), by first | assumption | exact BW.new (by assumption) _⟩
theorem sh_75 : ShAt 75 := by
  intro w
  have HS := fun w1 h => sort_bw w w1 h 75 (by decide) (by decide)
  have HN := fun w1 h => name_bw w w1 h 75 (by decide) (by decide)
  have HB : BW w w := Below.refl _ _
  rw [show srt 75 = 12 by decide] at HS
  rw [show tx (nmO 75) = .string ⟨#[97, 109, 111, 109, 97, 120, 117, 46, 100]⟩ from rfl] at HN
  go_enter Tryd.func31, Tryd.ntmps31
  go_wp2_with (first
    | (go_at_call 19; refine (HS _ (by assumption)).mono ?_; rintro e w' ⟨rfl, hb⟩)
    | (go_at_call 18; refine (HN _ (by assumption)).mono ?_; rintro e w' ⟨rfl, hb⟩))
  go_ret
  exact ⟨ret_int (by decide), by first | assumption | exact BW.new (by assumption) _⟩
theorem tu_any (op : Int) (h : 1 ≤ op ∧ op ≤ 75) : TuAt op := by
  have hc : op = 1 ∨ op = 2 ∨ op = 3 ∨ op = 4 ∨ op = 5 ∨ op = 6 ∨ op = 7 ∨ op = 8 ∨ op = 9 ∨ op = 10 ∨ op = 11 ∨ op = 12 ∨ op = 13 ∨ op = 14 ∨ op = 15 ∨ op = 16 ∨ op = 17 ∨ op = 18 ∨ op = 19 ∨ op = 20 ∨ op = 21 ∨ op = 22 ∨ op = 23 ∨ op = 24 ∨ op = 25 ∨ op = 26 ∨ op = 27 ∨ op = 28 ∨ op = 29 ∨ op = 30 ∨ op = 31 ∨ op = 32 ∨ op = 33 ∨ op = 34 ∨ op = 35 ∨ op = 36 ∨ op = 37 ∨ op = 38 ∨ op = 39 ∨ op = 40 ∨ op = 41 ∨ op = 42 ∨ op = 43 ∨ op = 44 ∨ op = 45 ∨ op = 46 ∨ op = 47 ∨ op = 48 ∨ op = 49 ∨ op = 50 ∨ op = 51 ∨ op = 52 ∨ op = 53 ∨ op = 54 ∨ op = 55 ∨ op = 56 ∨ op = 57 ∨ op = 58 ∨ op = 59 ∨ op = 60 ∨ op = 61 ∨ op = 62 ∨ op = 63 ∨ op = 64 ∨ op = 65 ∨ op = 66 ∨ op = 67 ∨ op = 68 ∨ op = 69 ∨ op = 70 ∨ op = 71 ∨ op = 72 ∨ op = 73 ∨ op = 74 ∨ op = 75 := by omega
  rcases hc with rfl | rfl | rfl | rfl | rfl | rfl | rfl | rfl | rfl | rfl | rfl | rfl | rfl | rfl | rfl | rfl | rfl | rfl | rfl | rfl | rfl | rfl | rfl | rfl | rfl | rfl | rfl | rfl | rfl | rfl | rfl | rfl | rfl | rfl | rfl | rfl | rfl | rfl | rfl | rfl | rfl | rfl | rfl | rfl | rfl | rfl | rfl | rfl | rfl | rfl | rfl | rfl | rfl | rfl | rfl | rfl | rfl | rfl | rfl | rfl | rfl | rfl | rfl | rfl | rfl | rfl | rfl | rfl | rfl | rfl | rfl | rfl | rfl | rfl | rfl
  · exact tu_1
  · exact tu_2
  · exact tu_3
  · exact tu_4
  · exact tu_5
  · exact tu_6
  · exact tu_7
  · exact tu_8
  · exact tu_9
  · exact tu_10
  · exact tu_11
  · exact tu_12
  · exact tu_13
  · exact tu_14
  · exact tu_15
  · exact tu_16
  · exact tu_17
  · exact tu_18
  · exact tu_19
  · exact tu_20
  · exact tu_21
  · exact tu_22
  · exact tu_23
  · exact tu_24
  · exact tu_25
  · exact tu_26
  · exact tu_27
  · exact tu_28
  · exact tu_29
  · exact tu_30
  · exact tu_31
  · exact tu_32
  · exact tu_33
  · exact tu_34
  · exact tu_35
  · exact tu_36
  · exact tu_37
  · exact tu_38
  · exact tu_39
  · exact tu_40
  · exact tu_41
  · exact tu_42
  · exact tu_43
  · exact tu_44
  · exact tu_45
  · exact tu_46
  · exact tu_47
  · exact tu_48
  · exact tu_49
  · exact tu_50
  · exact tu_51
  · exact tu_52
  · exact tu_53
  · exact tu_54
  · exact tu_55
  · exact tu_56
  · exact tu_57
  · exact tu_58
  · exact tu_59
  · exact tu_60
  · exact tu_61
  · exact tu_62
  · exact tu_63
  · exact tu_64
  · exact tu_65
  · exact tu_66
  · exact tu_67
  · exact tu_68
  · exact tu_69
  · exact tu_70
  · exact tu_71
  · exact tu_72
  · exact tu_73
  · exact tu_74
  · exact tu_75
theorem sh_any (op : Int) (h : 1 ≤ op ∧ op ≤ 75) : ShAt op := by
  have hc : op = 1 ∨ op = 2 ∨ op = 3 ∨ op = 4 ∨ op = 5 ∨ op = 6 ∨ op = 7 ∨ op = 8 ∨ op = 9 ∨ op = 10 ∨ op = 11 ∨ op = 12 ∨ op = 13 ∨ op = 14 ∨ op = 15 ∨ op = 16 ∨ op = 17 ∨ op = 18 ∨ op = 19 ∨ op = 20 ∨ op = 21 ∨ op = 22 ∨ op = 23 ∨ op = 24 ∨ op = 25 ∨ op = 26 ∨ op = 27 ∨ op = 28 ∨ op = 29 ∨ op = 30 ∨ op = 31 ∨ op = 32 ∨ op = 33 ∨ op = 34 ∨ op = 35 ∨ op = 36 ∨ op = 37 ∨ op = 38 ∨ op = 39 ∨ op = 40 ∨ op = 41 ∨ op = 42 ∨ op = 43 ∨ op = 44 ∨ op = 45 ∨ op = 46 ∨ op = 47 ∨ op = 48 ∨ op = 49 ∨ op = 50 ∨ op = 51 ∨ op = 52 ∨ op = 53 ∨ op = 54 ∨ op = 55 ∨ op = 56 ∨ op = 57 ∨ op = 58 ∨ op = 59 ∨ op = 60 ∨ op = 61 ∨ op = 62 ∨ op = 63 ∨ op = 64 ∨ op = 65 ∨ op = 66 ∨ op = 67 ∨ op = 68 ∨ op = 69 ∨ op = 70 ∨ op = 71 ∨ op = 72 ∨ op = 73 ∨ op = 74 ∨ op = 75 := by omega
  rcases hc with rfl | rfl | rfl | rfl | rfl | rfl | rfl | rfl | rfl | rfl | rfl | rfl | rfl | rfl | rfl | rfl | rfl | rfl | rfl | rfl | rfl | rfl | rfl | rfl | rfl | rfl | rfl | rfl | rfl | rfl | rfl | rfl | rfl | rfl | rfl | rfl | rfl | rfl | rfl | rfl | rfl | rfl | rfl | rfl | rfl | rfl | rfl | rfl | rfl | rfl | rfl | rfl | rfl | rfl | rfl | rfl | rfl | rfl | rfl | rfl | rfl | rfl | rfl | rfl | rfl | rfl | rfl | rfl | rfl | rfl | rfl | rfl | rfl | rfl | rfl
  · exact sh_1
  · exact sh_2
  · exact sh_3
  · exact sh_4
  · exact sh_5
  · exact sh_6
  · exact sh_7
  · exact sh_8
  · exact sh_9
  · exact sh_10
  · exact sh_11
  · exact sh_12
  · exact sh_13
  · exact sh_14
  · exact sh_15
  · exact sh_16
  · exact sh_17
  · exact sh_18
  · exact sh_19
  · exact sh_20
  · exact sh_21
  · exact sh_22
  · exact sh_23
  · exact sh_24
  · exact sh_25
  · exact sh_26
  · exact sh_27
  · exact sh_28
  · exact sh_29
  · exact sh_30
  · exact sh_31
  · exact sh_32
  · exact sh_33
  · exact sh_34
  · exact sh_35
  · exact sh_36
  · exact sh_37
  · exact sh_38
  · exact sh_39
  · exact sh_40
  · exact sh_41
  · exact sh_42
  · exact sh_43
  · exact sh_44
  · exact sh_45
  · exact sh_46
  · exact sh_47
  · exact sh_48
  · exact sh_49
  · exact sh_50
  · exact sh_51
  · exact sh_52
  · exact sh_53
  · exact sh_54
  · exact sh_55
  · exact sh_56
  · exact sh_57
  · exact sh_58
  · exact sh_59
  · exact sh_60
  · exact sh_61
  · exact sh_62
  · exact sh_63
  · exact sh_64
  · exact sh_65
  · exact sh_66
  · exact sh_67
  · exact sh_68
  · exact sh_69
  · exact sh_70
  · exact sh_71
  · exact sh_72
  · exact sh_73
  · exact sh_74
  · exact sh_75
end Go.Proofs.YtbnacdhhacafkaaDoor
