/- The document's Opcode, operation by operation. -/
import Derived.Test.YtbnacdhhacafkaaDoorRows
import Derived.Test.YtbnacdhhacafkaaDoorSz
import Derived.Test.YtbnacdhhacafkaaDoorTd
import Derived.WalkKit
import Derived.WalkLawsBesides
import Derived.Deep.QuietTactic
import Derived.BigQuiet
import Derived.WalkSmall
import Derived.WalkSpells
import Derived.Lib.Hide
import Derived.Below
namespace Go.Proofs.YtbnacdhhacafkaaDoor
open Go.RowKit

def OcAt (op : Int) : Prop := ∀ w : World, Calls Tryd.prog 9 #[.int .i64 op] w fun e w' => e = .returned (.int .u32 (ocV op)) ∧ BW w w'
theorem oc_other {op : Int} (h0 : -9223372036854775808 ≤ op) (h1 : op ≤ 9223372036854775807) (h : ¬ (1 ≤ op ∧ op ≤ 75)) : OcAt op := by
  intro w
  have HS := fun w1 h => sort_bw w w1 h op h0 h1
  have HN := fun w1 h => name_bw w w1 h op h0 h1
  have HB : BW w w := Below.refl _ _
  have HV : Hid (ocV op = 0) := by show _ = _; unfold ocV tabI; rw [if_neg h]
  rw [show srt op = 0 by have := srt_spec op; omega] at HS
  unfold tx at HN
  generalize bs (nmO op) = q at *
  clear h
  go_enter Tryd.func9, Tryd.ntmps9
  go_wp2_with (first
    | (go_at_call 19; refine (HS _ (by assumption)).mono ?_; rintro e w' ⟨rfl, hb⟩)
    | (go_at_call 18; refine (HN _ (by assumption)).mono ?_; rintro e w' ⟨rfl, hb⟩))
  go_ret
  exact ⟨ret_int HV.out.symm, by assumption⟩
theorem oc_1 : OcAt 1 := by
  intro w
  have HS := fun w1 h => sort_bw w w1 h 1 (by decide) (by decide)
  have HN := fun w1 h => name_bw w w1 h 1 (by decide) (by decide)
  have HB : BW w w := Below.refl _ _
  rw [show srt 1 = 1 by decide] at HS
  rw [show tx (nmO 1) = .string ⟨#[108, 117, 105]⟩ from rfl] at HN
  have e0 : ∀ h, ((⟨#[108, 117, 105]⟩ : ByteArray)[2]'h).toNat = 105 := fun _ => rfl
  go_enter Tryd.func9, Tryd.ntmps9
  go_wp2_with (first
    | (go_at_call 19; refine (HS _ (by assumption)).mono ?_; rintro e w' ⟨rfl, hb⟩)
    | (go_at_call 18; refine (HN _ (by assumption)).mono ?_; rintro e w' ⟨rfl, hb⟩))
  go_ret
  exact ⟨ret_int (by decide), by first | assumption | exact BW.new (by assumption) _⟩
theorem oc_2 : OcAt 2 := by
  intro w
  have HS := fun w1 h => sort_bw w w1 h 2 (by decide) (by decide)
  have HN := fun w1 h => name_bw w w1 h 2 (by decide) (by decide)
  have HB : BW w w := Below.refl _ _
  rw [show srt 2 = 1 by decide] at HS
  rw [show tx (nmO 2) = .string ⟨#[97, 117, 105, 112, 99]⟩ from rfl] at HN
  have e0 : ∀ h, ((⟨#[97, 117, 105, 112, 99]⟩ : ByteArray)[4]'h).toNat = 99 := fun _ => rfl
  go_enter Tryd.func9, Tryd.ntmps9
  go_wp2_with (first
    | (go_at_call 19; refine (HS _ (by assumption)).mono ?_; rintro e w' ⟨rfl, hb⟩)
    | (go_at_call 18; refine (HN _ (by assumption)).mono ?_; rintro e w' ⟨rfl, hb⟩))
  go_ret
  exact ⟨ret_int (by decide), by first | assumption | exact BW.new (by assumption) _⟩
theorem oc_3 : OcAt 3 := by
  intro w
  have HS := fun w1 h => sort_bw w w1 h 3 (by decide) (by decide)
  have HN := fun w1 h => name_bw w w1 h 3 (by decide) (by decide)
  have HB : BW w w := Below.refl _ _
  rw [show srt 3 = 2 by decide] at HS
  rw [show tx (nmO 3) = .string ⟨#[106, 97, 108]⟩ from rfl] at HN
  have e0 : ∀ h, ((⟨#[106, 97, 108]⟩ : ByteArray)[2]'h).toNat = 108 := fun _ => rfl
  go_enter Tryd.func9, Tryd.ntmps9
  go_wp2_with (first
    | (go_at_call 19; refine (HS _ (by assumption)).mono ?_; rintro e w' ⟨rfl, hb⟩)
    | (go_at_call 18; refine (HN _ (by assumption)).mono ?_; rintro e w' ⟨rfl, hb⟩))
  go_ret
  exact ⟨ret_int (by decide), by first | assumption | exact BW.new (by assumption) _⟩
theorem oc_4 : OcAt 4 := by
  intro w
  have HS := fun w1 h => sort_bw w w1 h 4 (by decide) (by decide)
  have HN := fun w1 h => name_bw w w1 h 4 (by decide) (by decide)
  have HB : BW w w := Below.refl _ _
  rw [show srt 4 = 2 by decide] at HS
  rw [show tx (nmO 4) = .string ⟨#[106, 97, 108, 114]⟩ from rfl] at HN
  have e0 : ∀ h, ((⟨#[106, 97, 108, 114]⟩ : ByteArray)[3]'h).toNat = 114 := fun _ => rfl
  go_enter Tryd.func9, Tryd.ntmps9
  go_wp2_with (first
    | (go_at_call 19; refine (HS _ (by assumption)).mono ?_; rintro e w' ⟨rfl, hb⟩)
    | (go_at_call 18; refine (HN _ (by assumption)).mono ?_; rintro e w' ⟨rfl, hb⟩))
  go_ret
  exact ⟨ret_int (by decide), by first | assumption | exact BW.new (by assumption) _⟩
theorem oc_5 : OcAt 5 := by
  intro w
  have HS := fun w1 h => sort_bw w w1 h 5 (by decide) (by decide)
  have HN := fun w1 h => name_bw w w1 h 5 (by decide) (by decide)
  have HB : BW w w := Below.refl _ _
  rw [show srt 5 = 3 by decide] at HS
  rw [show tx (nmO 5) = .string ⟨#[98, 101, 113]⟩ from rfl] at HN
  have e0 : ∀ h, ((⟨#[98, 101, 113]⟩ : ByteArray)[2]'h).toNat = 113 := fun _ => rfl
  go_enter Tryd.func9, Tryd.ntmps9
  go_wp2_with (first
    | (go_at_call 19; refine (HS _ (by assumption)).mono ?_; rintro e w' ⟨rfl, hb⟩)
    | (go_at_call 18; refine (HN _ (by assumption)).mono ?_; rintro e w' ⟨rfl, hb⟩))
  go_ret
  exact ⟨ret_int (by decide), by first | assumption | exact BW.new (by assumption) _⟩
theorem oc_6 : OcAt 6 := by
  intro w
  have HS := fun w1 h => sort_bw w w1 h 6 (by decide) (by decide)
  have HN := fun w1 h => name_bw w w1 h 6 (by decide) (by decide)
  have HB : BW w w := Below.refl _ _
  rw [show srt 6 = 3 by decide] at HS
  rw [show tx (nmO 6) = .string ⟨#[98, 110, 101]⟩ from rfl] at HN
  have e0 : ∀ h, ((⟨#[98, 110, 101]⟩ : ByteArray)[2]'h).toNat = 101 := fun _ => rfl
  go_enter Tryd.func9, Tryd.ntmps9
  go_wp2_with (first
    | (go_at_call 19; refine (HS _ (by assumption)).mono ?_; rintro e w' ⟨rfl, hb⟩)
    | (go_at_call 18; refine (HN _ (by assumption)).mono ?_; rintro e w' ⟨rfl, hb⟩))
  go_ret
  exact ⟨ret_int (by decide), by first | assumption | exact BW.new (by assumption) _⟩
theorem oc_7 : OcAt 7 := by
  intro w
  have HS := fun w1 h => sort_bw w w1 h 7 (by decide) (by decide)
  have HN := fun w1 h => name_bw w w1 h 7 (by decide) (by decide)
  have HB : BW w w := Below.refl _ _
  rw [show srt 7 = 3 by decide] at HS
  rw [show tx (nmO 7) = .string ⟨#[98, 108, 116]⟩ from rfl] at HN
  have e0 : ∀ h, ((⟨#[98, 108, 116]⟩ : ByteArray)[2]'h).toNat = 116 := fun _ => rfl
  go_enter Tryd.func9, Tryd.ntmps9
  go_wp2_with (first
    | (go_at_call 19; refine (HS _ (by assumption)).mono ?_; rintro e w' ⟨rfl, hb⟩)
    | (go_at_call 18; refine (HN _ (by assumption)).mono ?_; rintro e w' ⟨rfl, hb⟩))
  go_ret
  exact ⟨ret_int (by decide), by first | assumption | exact BW.new (by assumption) _⟩
theorem oc_8 : OcAt 8 := by
  intro w
  have HS := fun w1 h => sort_bw w w1 h 8 (by decide) (by decide)
  have HN := fun w1 h => name_bw w w1 h 8 (by decide) (by decide)
  have HB : BW w w := Below.refl _ _
  rw [show srt 8 = 3 by decide] at HS
  rw [show tx (nmO 8) = .string ⟨#[98, 103, 101]⟩ from rfl] at HN
  have e0 : ∀ h, ((⟨#[98, 103, 101]⟩ : ByteArray)[2]'h).toNat = 101 := fun _ => rfl
  go_enter Tryd.func9, Tryd.ntmps9
  go_wp2_with (first
    | (go_at_call 19; refine (HS _ (by assumption)).mono ?_; rintro e w' ⟨rfl, hb⟩)
    | (go_at_call 18; refine (HN _ (by assumption)).mono ?_; rintro e w' ⟨rfl, hb⟩))
  go_ret
  exact ⟨ret_int (by decide), by first | assumption | exact BW.new (by assumption) _⟩
theorem oc_9 : OcAt 9 := by
  intro w
  have HS := fun w1 h => sort_bw w w1 h 9 (by decide) (by decide)
  have HN := fun w1 h => name_bw w w1 h 9 (by decide) (by decide)
  have HB : BW w w := Below.refl _ _
  rw [show srt 9 = 3 by decide] at HS
  rw [show tx (nmO 9) = .string ⟨#[98, 108, 116, 117]⟩ from rfl] at HN
  have e0 : ∀ h, ((⟨#[98, 108, 116, 117]⟩ : ByteArray)[3]'h).toNat = 117 := fun _ => rfl
  go_enter Tryd.func9, Tryd.ntmps9
  go_wp2_with (first
    | (go_at_call 19; refine (HS _ (by assumption)).mono ?_; rintro e w' ⟨rfl, hb⟩)
    | (go_at_call 18; refine (HN _ (by assumption)).mono ?_; rintro e w' ⟨rfl, hb⟩))
  go_ret
  exact ⟨ret_int (by decide), by first | assumption | exact BW.new (by assumption) _⟩
theorem oc_10 : OcAt 10 := by
  intro w
  have HS := fun w1 h => sort_bw w w1 h 10 (by decide) (by decide)
  have HN := fun w1 h => name_bw w w1 h 10 (by decide) (by decide)
  have HB : BW w w := Below.refl _ _
  rw [show srt 10 = 3 by decide] at HS
  rw [show tx (nmO 10) = .string ⟨#[98, 103, 101, 117]⟩ from rfl] at HN
  have e0 : ∀ h, ((⟨#[98, 103, 101, 117]⟩ : ByteArray)[3]'h).toNat = 117 := fun _ => rfl
  go_enter Tryd.func9, Tryd.ntmps9
  go_wp2_with (first
    | (go_at_call 19; refine (HS _ (by assumption)).mono ?_; rintro e w' ⟨rfl, hb⟩)
    | (go_at_call 18; refine (HN _ (by assumption)).mono ?_; rintro e w' ⟨rfl, hb⟩))
  go_ret
  exact ⟨ret_int (by decide), by first | assumption | exact BW.new (by assumption) _⟩
theorem oc_11 : OcAt 11 := by
  intro w
  have HS := fun w1 h => sort_bw w w1 h 11 (by decide) (by decide)
  have HN := fun w1 h => name_bw w w1 h 11 (by decide) (by decide)
  have HB : BW w w := Below.refl _ _
  rw [show srt 11 = 4 by decide] at HS
  rw [show tx (nmO 11) = .string ⟨#[108, 98]⟩ from rfl] at HN
  have e0 : ∀ h, ((⟨#[108, 98]⟩ : ByteArray)[1]'h).toNat = 98 := fun _ => rfl
  go_enter Tryd.func9, Tryd.ntmps9
  go_wp2_with (first
    | (go_at_call 19; refine (HS _ (by assumption)).mono ?_; rintro e w' ⟨rfl, hb⟩)
    | (go_at_call 18; refine (HN _ (by assumption)).mono ?_; rintro e w' ⟨rfl, hb⟩))
  go_ret
  exact ⟨ret_int (by decide), by first | assumption | exact BW.new (by assumption) _⟩
theorem oc_12 : OcAt 12 := by
  intro w
  have HS := fun w1 h => sort_bw w w1 h 12 (by decide) (by decide)
  have HN := fun w1 h => name_bw w w1 h 12 (by decide) (by decide)
  have HB : BW w w := Below.refl _ _
  rw [show srt 12 = 4 by decide] at HS
  rw [show tx (nmO 12) = .string ⟨#[108, 104]⟩ from rfl] at HN
  have e0 : ∀ h, ((⟨#[108, 104]⟩ : ByteArray)[1]'h).toNat = 104 := fun _ => rfl
  go_enter Tryd.func9, Tryd.ntmps9
  go_wp2_with (first
    | (go_at_call 19; refine (HS _ (by assumption)).mono ?_; rintro e w' ⟨rfl, hb⟩)
    | (go_at_call 18; refine (HN _ (by assumption)).mono ?_; rintro e w' ⟨rfl, hb⟩))
  go_ret
  exact ⟨ret_int (by decide), by first | assumption | exact BW.new (by assumption) _⟩
theorem oc_13 : OcAt 13 := by
  intro w
  have HS := fun w1 h => sort_bw w w1 h 13 (by decide) (by decide)
  have HN := fun w1 h => name_bw w w1 h 13 (by decide) (by decide)
  have HB : BW w w := Below.refl _ _
  rw [show srt 13 = 4 by decide] at HS
  rw [show tx (nmO 13) = .string ⟨#[108, 119]⟩ from rfl] at HN
  have e0 : ∀ h, ((⟨#[108, 119]⟩ : ByteArray)[1]'h).toNat = 119 := fun _ => rfl
  go_enter Tryd.func9, Tryd.ntmps9
  go_wp2_with (first
    | (go_at_call 19; refine (HS _ (by assumption)).mono ?_; rintro e w' ⟨rfl, hb⟩)
    | (go_at_call 18; refine (HN _ (by assumption)).mono ?_; rintro e w' ⟨rfl, hb⟩))
  go_ret
  exact ⟨ret_int (by decide), by first | assumption | exact BW.new (by assumption) _⟩
theorem oc_14 : OcAt 14 := by
  intro w
  have HS := fun w1 h => sort_bw w w1 h 14 (by decide) (by decide)
  have HN := fun w1 h => name_bw w w1 h 14 (by decide) (by decide)
  have HB : BW w w := Below.refl _ _
  rw [show srt 14 = 4 by decide] at HS
  rw [show tx (nmO 14) = .string ⟨#[108, 100]⟩ from rfl] at HN
  have e0 : ∀ h, ((⟨#[108, 100]⟩ : ByteArray)[1]'h).toNat = 100 := fun _ => rfl
  go_enter Tryd.func9, Tryd.ntmps9
  go_wp2_with (first
    | (go_at_call 19; refine (HS _ (by assumption)).mono ?_; rintro e w' ⟨rfl, hb⟩)
    | (go_at_call 18; refine (HN _ (by assumption)).mono ?_; rintro e w' ⟨rfl, hb⟩))
  go_ret
  exact ⟨ret_int (by decide), by first | assumption | exact BW.new (by assumption) _⟩
theorem oc_15 : OcAt 15 := by
  intro w
  have HS := fun w1 h => sort_bw w w1 h 15 (by decide) (by decide)
  have HN := fun w1 h => name_bw w w1 h 15 (by decide) (by decide)
  have HB : BW w w := Below.refl _ _
  rw [show srt 15 = 4 by decide] at HS
  rw [show tx (nmO 15) = .string ⟨#[108, 98, 117]⟩ from rfl] at HN
  have e0 : ∀ h, ((⟨#[108, 98, 117]⟩ : ByteArray)[2]'h).toNat = 117 := fun _ => rfl
  go_enter Tryd.func9, Tryd.ntmps9
  go_wp2_with (first
    | (go_at_call 19; refine (HS _ (by assumption)).mono ?_; rintro e w' ⟨rfl, hb⟩)
    | (go_at_call 18; refine (HN _ (by assumption)).mono ?_; rintro e w' ⟨rfl, hb⟩))
  go_ret
  exact ⟨ret_int (by decide), by first | assumption | exact BW.new (by assumption) _⟩
theorem oc_16 : OcAt 16 := by
  intro w
  have HS := fun w1 h => sort_bw w w1 h 16 (by decide) (by decide)
  have HN := fun w1 h => name_bw w w1 h 16 (by decide) (by decide)
  have HB : BW w w := Below.refl _ _
  rw [show srt 16 = 4 by decide] at HS
  rw [show tx (nmO 16) = .string ⟨#[108, 104, 117]⟩ from rfl] at HN
  have e0 : ∀ h, ((⟨#[108, 104, 117]⟩ : ByteArray)[2]'h).toNat = 117 := fun _ => rfl
  go_enter Tryd.func9, Tryd.ntmps9
  go_wp2_with (first
    | (go_at_call 19; refine (HS _ (by assumption)).mono ?_; rintro e w' ⟨rfl, hb⟩)
    | (go_at_call 18; refine (HN _ (by assumption)).mono ?_; rintro e w' ⟨rfl, hb⟩))
  go_ret
  exact ⟨ret_int (by decide), by first | assumption | exact BW.new (by assumption) _⟩
theorem oc_17 : OcAt 17 := by
  intro w
  have HS := fun w1 h => sort_bw w w1 h 17 (by decide) (by decide)
  have HN := fun w1 h => name_bw w w1 h 17 (by decide) (by decide)
  have HB : BW w w := Below.refl _ _
  rw [show srt 17 = 4 by decide] at HS
  rw [show tx (nmO 17) = .string ⟨#[108, 119, 117]⟩ from rfl] at HN
  have e0 : ∀ h, ((⟨#[108, 119, 117]⟩ : ByteArray)[2]'h).toNat = 117 := fun _ => rfl
  go_enter Tryd.func9, Tryd.ntmps9
  go_wp2_with (first
    | (go_at_call 19; refine (HS _ (by assumption)).mono ?_; rintro e w' ⟨rfl, hb⟩)
    | (go_at_call 18; refine (HN _ (by assumption)).mono ?_; rintro e w' ⟨rfl, hb⟩))
  go_ret
  exact ⟨ret_int (by decide), by first | assumption | exact BW.new (by assumption) _⟩
theorem oc_18 : OcAt 18 := by
  intro w
  have HS := fun w1 h => sort_bw w w1 h 18 (by decide) (by decide)
  have HN := fun w1 h => name_bw w w1 h 18 (by decide) (by decide)
  have HB : BW w w := Below.refl _ _
  rw [show srt 18 = 5 by decide] at HS
  rw [show tx (nmO 18) = .string ⟨#[115, 98]⟩ from rfl] at HN
  have e0 : ∀ h, ((⟨#[115, 98]⟩ : ByteArray)[1]'h).toNat = 98 := fun _ => rfl
  go_enter Tryd.func9, Tryd.ntmps9
  go_wp2_with (first
    | (go_at_call 19; refine (HS _ (by assumption)).mono ?_; rintro e w' ⟨rfl, hb⟩)
    | (go_at_call 18; refine (HN _ (by assumption)).mono ?_; rintro e w' ⟨rfl, hb⟩))
  go_ret
  exact ⟨ret_int (by decide), by first | assumption | exact BW.new (by assumption) _⟩
theorem oc_19 : OcAt 19 := by
  intro w
  have HS := fun w1 h => sort_bw w w1 h 19 (by decide) (by decide)
  have HN := fun w1 h => name_bw w w1 h 19 (by decide) (by decide)
  have HB : BW w w := Below.refl _ _
  rw [show srt 19 = 5 by decide] at HS
  rw [show tx (nmO 19) = .string ⟨#[115, 104]⟩ from rfl] at HN
  have e0 : ∀ h, ((⟨#[115, 104]⟩ : ByteArray)[1]'h).toNat = 104 := fun _ => rfl
  go_enter Tryd.func9, Tryd.ntmps9
  go_wp2_with (first
    | (go_at_call 19; refine (HS _ (by assumption)).mono ?_; rintro e w' ⟨rfl, hb⟩)
    | (go_at_call 18; refine (HN _ (by assumption)).mono ?_; rintro e w' ⟨rfl, hb⟩))
  go_ret
  exact ⟨ret_int (by decide), by first | assumption | exact BW.new (by assumption) _⟩
theorem oc_20 : OcAt 20 := by
  intro w
  have HS := fun w1 h => sort_bw w w1 h 20 (by decide) (by decide)
  have HN := fun w1 h => name_bw w w1 h 20 (by decide) (by decide)
  have HB : BW w w := Below.refl _ _
  rw [show srt 20 = 5 by decide] at HS
  rw [show tx (nmO 20) = .string ⟨#[115, 119]⟩ from rfl] at HN
  have e0 : ∀ h, ((⟨#[115, 119]⟩ : ByteArray)[1]'h).toNat = 119 := fun _ => rfl
  go_enter Tryd.func9, Tryd.ntmps9
  go_wp2_with (first
    | (go_at_call 19; refine (HS _ (by assumption)).mono ?_; rintro e w' ⟨rfl, hb⟩)
    | (go_at_call 18; refine (HN _ (by assumption)).mono ?_; rintro e w' ⟨rfl, hb⟩))
  go_ret
  exact ⟨ret_int (by decide), by first | assumption | exact BW.new (by assumption) _⟩
theorem oc_21 : OcAt 21 := by
  intro w
  have HS := fun w1 h => sort_bw w w1 h 21 (by decide) (by decide)
  have HN := fun w1 h => name_bw w w1 h 21 (by decide) (by decide)
  have HB : BW w w := Below.refl _ _
  rw [show srt 21 = 5 by decide] at HS
  rw [show tx (nmO 21) = .string ⟨#[115, 100]⟩ from rfl] at HN
  have e0 : ∀ h, ((⟨#[115, 100]⟩ : ByteArray)[1]'h).toNat = 100 := fun _ => rfl
  go_enter Tryd.func9, Tryd.ntmps9
  go_wp2_with (first
    | (go_at_call 19; refine (HS _ (by assumption)).mono ?_; rintro e w' ⟨rfl, hb⟩)
    | (go_at_call 18; refine (HN _ (by assumption)).mono ?_; rintro e w' ⟨rfl, hb⟩))
  go_ret
  exact ⟨ret_int (by decide), by first | assumption | exact BW.new (by assumption) _⟩
theorem oc_22 : OcAt 22 := by
  intro w
  have HS := fun w1 h => sort_bw w w1 h 22 (by decide) (by decide)
  have HN := fun w1 h => name_bw w w1 h 22 (by decide) (by decide)
  have HB : BW w w := Below.refl _ _
  rw [show srt 22 = 6 by decide] at HS
  rw [show tx (nmO 22) = .string ⟨#[97, 100, 100, 105]⟩ from rfl] at HN
  have e0 : ∀ h, ((⟨#[97, 100, 100, 105]⟩ : ByteArray)[3]'h).toNat = 105 := fun _ => rfl
  go_enter Tryd.func9, Tryd.ntmps9
  go_wp2_with (first
    | (go_at_call 19; refine (HS _ (by assumption)).mono ?_; rintro e w' ⟨rfl, hb⟩)
    | (go_at_call 18; refine (HN _ (by assumption)).mono ?_; rintro e w' ⟨rfl, hb⟩))
  go_ret
  exact ⟨ret_int (by decide), by first | assumption | exact BW.new (by assumption) _⟩
theorem oc_23 : OcAt 23 := by
  intro w
  have HS := fun w1 h => sort_bw w w1 h 23 (by decide) (by decide)
  have HN := fun w1 h => name_bw w w1 h 23 (by decide) (by decide)
  have HB : BW w w := Below.refl _ _
  rw [show srt 23 = 6 by decide] at HS
  rw [show tx (nmO 23) = .string ⟨#[115, 108, 116, 105]⟩ from rfl] at HN
  have e0 : ∀ h, ((⟨#[115, 108, 116, 105]⟩ : ByteArray)[3]'h).toNat = 105 := fun _ => rfl
  go_enter Tryd.func9, Tryd.ntmps9
  go_wp2_with (first
    | (go_at_call 19; refine (HS _ (by assumption)).mono ?_; rintro e w' ⟨rfl, hb⟩)
    | (go_at_call 18; refine (HN _ (by assumption)).mono ?_; rintro e w' ⟨rfl, hb⟩))
  go_ret
  exact ⟨ret_int (by decide), by first | assumption | exact BW.new (by assumption) _⟩
theorem oc_24 : OcAt 24 := by
  intro w
  have HS := fun w1 h => sort_bw w w1 h 24 (by decide) (by decide)
  have HN := fun w1 h => name_bw w w1 h 24 (by decide) (by decide)
  have HB : BW w w := Below.refl _ _
  rw [show srt 24 = 6 by decide] at HS
  rw [show tx (nmO 24) = .string ⟨#[115, 108, 116, 105, 117]⟩ from rfl] at HN
  have e0 : ∀ h, ((⟨#[115, 108, 116, 105, 117]⟩ : ByteArray)[4]'h).toNat = 117 := fun _ => rfl
  go_enter Tryd.func9, Tryd.ntmps9
  go_wp2_with (first
    | (go_at_call 19; refine (HS _ (by assumption)).mono ?_; rintro e w' ⟨rfl, hb⟩)
    | (go_at_call 18; refine (HN _ (by assumption)).mono ?_; rintro e w' ⟨rfl, hb⟩))
  go_ret
  exact ⟨ret_int (by decide), by first | assumption | exact BW.new (by assumption) _⟩
theorem oc_25 : OcAt 25 := by
  intro w
  have HS := fun w1 h => sort_bw w w1 h 25 (by decide) (by decide)
  have HN := fun w1 h => name_bw w w1 h 25 (by decide) (by decide)
  have HB : BW w w := Below.refl _ _
  rw [show srt 25 = 6 by decide] at HS
  rw [show tx (nmO 25) = .string ⟨#[120, 111, 114, 105]⟩ from rfl] at HN
  have e0 : ∀ h, ((⟨#[120, 111, 114, 105]⟩ : ByteArray)[3]'h).toNat = 105 := fun _ => rfl
  go_enter Tryd.func9, Tryd.ntmps9
  go_wp2_with (first
    | (go_at_call 19; refine (HS _ (by assumption)).mono ?_; rintro e w' ⟨rfl, hb⟩)
    | (go_at_call 18; refine (HN _ (by assumption)).mono ?_; rintro e w' ⟨rfl, hb⟩))
  go_ret
  exact ⟨ret_int (by decide), by first | assumption | exact BW.new (by assumption) _⟩
theorem oc_26 : OcAt 26 := by
  intro w
  have HS := fun w1 h => sort_bw w w1 h 26 (by decide) (by decide)
  have HN := fun w1 h => name_bw w w1 h 26 (by decide) (by decide)
  have HB : BW w w := Below.refl _ _
  rw [show srt 26 = 6 by decide] at HS
  rw [show tx (nmO 26) = .string ⟨#[111, 114, 105]⟩ from rfl] at HN
  have e0 : ∀ h, ((⟨#[111, 114, 105]⟩ : ByteArray)[2]'h).toNat = 105 := fun _ => rfl
  go_enter Tryd.func9, Tryd.ntmps9
  go_wp2_with (first
    | (go_at_call 19; refine (HS _ (by assumption)).mono ?_; rintro e w' ⟨rfl, hb⟩)
    | (go_at_call 18; refine (HN _ (by assumption)).mono ?_; rintro e w' ⟨rfl, hb⟩))
  go_ret
  exact ⟨ret_int (by decide), by first | assumption | exact BW.new (by assumption) _⟩
theorem oc_27 : OcAt 27 := by
  intro w
  have HS := fun w1 h => sort_bw w w1 h 27 (by decide) (by decide)
  have HN := fun w1 h => name_bw w w1 h 27 (by decide) (by decide)
  have HB : BW w w := Below.refl _ _
  rw [show srt 27 = 6 by decide] at HS
  rw [show tx (nmO 27) = .string ⟨#[97, 110, 100, 105]⟩ from rfl] at HN
  have e0 : ∀ h, ((⟨#[97, 110, 100, 105]⟩ : ByteArray)[3]'h).toNat = 105 := fun _ => rfl
  go_enter Tryd.func9, Tryd.ntmps9
  go_wp2_with (first
    | (go_at_call 19; refine (HS _ (by assumption)).mono ?_; rintro e w' ⟨rfl, hb⟩)
    | (go_at_call 18; refine (HN _ (by assumption)).mono ?_; rintro e w' ⟨rfl, hb⟩))
  go_ret
  exact ⟨ret_int (by decide), by first | assumption | exact BW.new (by assumption) _⟩
theorem oc_28 : OcAt 28 := by
  intro w
  have HS := fun w1 h => sort_bw w w1 h 28 (by decide) (by decide)
  have HN := fun w1 h => name_bw w w1 h 28 (by decide) (by decide)
  have HB : BW w w := Below.refl _ _
  rw [show srt 28 = 6 by decide] at HS
  rw [show tx (nmO 28) = .string ⟨#[115, 108, 108, 105]⟩ from rfl] at HN
  have e0 : ∀ h, ((⟨#[115, 108, 108, 105]⟩ : ByteArray)[3]'h).toNat = 105 := fun _ => rfl
  go_enter Tryd.func9, Tryd.ntmps9
  go_wp2_with (first
    | (go_at_call 19; refine (HS _ (by assumption)).mono ?_; rintro e w' ⟨rfl, hb⟩)
    | (go_at_call 18; refine (HN _ (by assumption)).mono ?_; rintro e w' ⟨rfl, hb⟩))
  go_ret
  exact ⟨ret_int (by decide), by first | assumption | exact BW.new (by assumption) _⟩
theorem oc_29 : OcAt 29 := by
  intro w
  have HS := fun w1 h => sort_bw w w1 h 29 (by decide) (by decide)
  have HN := fun w1 h => name_bw w w1 h 29 (by decide) (by decide)
  have HB : BW w w := Below.refl _ _
  rw [show srt 29 = 6 by decide] at HS
  rw [show tx (nmO 29) = .string ⟨#[115, 114, 108, 105]⟩ from rfl] at HN
  have e0 : ∀ h, ((⟨#[115, 114, 108, 105]⟩ : ByteArray)[3]'h).toNat = 105 := fun _ => rfl
  go_enter Tryd.func9, Tryd.ntmps9
  go_wp2_with (first
    | (go_at_call 19; refine (HS _ (by assumption)).mono ?_; rintro e w' ⟨rfl, hb⟩)
    | (go_at_call 18; refine (HN _ (by assumption)).mono ?_; rintro e w' ⟨rfl, hb⟩))
  go_ret
  exact ⟨ret_int (by decide), by first | assumption | exact BW.new (by assumption) _⟩
theorem oc_30 : OcAt 30 := by
  intro w
  have HS := fun w1 h => sort_bw w w1 h 30 (by decide) (by decide)
  have HN := fun w1 h => name_bw w w1 h 30 (by decide) (by decide)
  have HB : BW w w := Below.refl _ _
  rw [show srt 30 = 6 by decide] at HS
  rw [show tx (nmO 30) = .string ⟨#[115, 114, 97, 105]⟩ from rfl] at HN
  have e0 : ∀ h, ((⟨#[115, 114, 97, 105]⟩ : ByteArray)[3]'h).toNat = 105 := fun _ => rfl
  go_enter Tryd.func9, Tryd.ntmps9
  go_wp2_with (first
    | (go_at_call 19; refine (HS _ (by assumption)).mono ?_; rintro e w' ⟨rfl, hb⟩)
    | (go_at_call 18; refine (HN _ (by assumption)).mono ?_; rintro e w' ⟨rfl, hb⟩))
  go_ret
  exact ⟨ret_int (by decide), by first | assumption | exact BW.new (by assumption) _⟩
theorem oc_31 : OcAt 31 := by
  intro w
  have HS := fun w1 h => sort_bw w w1 h 31 (by decide) (by decide)
  have HN := fun w1 h => name_bw w w1 h 31 (by decide) (by decide)
  have HB : BW w w := Below.refl _ _
  rw [show srt 31 = 6 by decide] at HS
  rw [show tx (nmO 31) = .string ⟨#[97, 100, 100, 105, 119]⟩ from rfl] at HN
  have e0 : ∀ h, ((⟨#[97, 100, 100, 105, 119]⟩ : ByteArray)[4]'h).toNat = 119 := fun _ => rfl
  go_enter Tryd.func9, Tryd.ntmps9
  go_wp2_with (first
    | (go_at_call 19; refine (HS _ (by assumption)).mono ?_; rintro e w' ⟨rfl, hb⟩)
    | (go_at_call 18; refine (HN _ (by assumption)).mono ?_; rintro e w' ⟨rfl, hb⟩))
  go_ret
  exact ⟨ret_int (by decide), by first | assumption | exact BW.new (by assumption) _⟩
theorem oc_32 : OcAt 32 := by
  intro w
  have HS := fun w1 h => sort_bw w w1 h 32 (by decide) (by decide)
  have HN := fun w1 h => name_bw w w1 h 32 (by decide) (by decide)
  have HB : BW w w := Below.refl _ _
  rw [show srt 32 = 6 by decide] at HS
  rw [show tx (nmO 32) = .string ⟨#[115, 108, 108, 105, 119]⟩ from rfl] at HN
  have e0 : ∀ h, ((⟨#[115, 108, 108, 105, 119]⟩ : ByteArray)[4]'h).toNat = 119 := fun _ => rfl
  go_enter Tryd.func9, Tryd.ntmps9
  go_wp2_with (first
    | (go_at_call 19; refine (HS _ (by assumption)).mono ?_; rintro e w' ⟨rfl, hb⟩)
    | (go_at_call 18; refine (HN _ (by assumption)).mono ?_; rintro e w' ⟨rfl, hb⟩))
  go_ret
  exact ⟨ret_int (by decide), by first | assumption | exact BW.new (by assumption) _⟩
theorem oc_33 : OcAt 33 := by
  intro w
  have HS := fun w1 h => sort_bw w w1 h 33 (by decide) (by decide)
  have HN := fun w1 h => name_bw w w1 h 33 (by decide) (by decide)
  have HB : BW w w := Below.refl _ _
  rw [show srt 33 = 6 by decide] at HS
  rw [show tx (nmO 33) = .string ⟨#[115, 114, 108, 105, 119]⟩ from rfl] at HN
  have e0 : ∀ h, ((⟨#[115, 114, 108, 105, 119]⟩ : ByteArray)[4]'h).toNat = 119 := fun _ => rfl
  go_enter Tryd.func9, Tryd.ntmps9
  go_wp2_with (first
    | (go_at_call 19; refine (HS _ (by assumption)).mono ?_; rintro e w' ⟨rfl, hb⟩)
    | (go_at_call 18; refine (HN _ (by assumption)).mono ?_; rintro e w' ⟨rfl, hb⟩))
  go_ret
  exact ⟨ret_int (by decide), by first | assumption | exact BW.new (by assumption) _⟩
theorem oc_34 : OcAt 34 := by
  intro w
  have HS := fun w1 h => sort_bw w w1 h 34 (by decide) (by decide)
  have HN := fun w1 h => name_bw w w1 h 34 (by decide) (by decide)
  have HB : BW w w := Below.refl _ _
  rw [show srt 34 = 6 by decide] at HS
  rw [show tx (nmO 34) = .string ⟨#[115, 114, 97, 105, 119]⟩ from rfl] at HN
  have e0 : ∀ h, ((⟨#[115, 114, 97, 105, 119]⟩ : ByteArray)[4]'h).toNat = 119 := fun _ => rfl
  go_enter Tryd.func9, Tryd.ntmps9
  go_wp2_with (first
    | (go_at_call 19; refine (HS _ (by assumption)).mono ?_; rintro e w' ⟨rfl, hb⟩)
    | (go_at_call 18; refine (HN _ (by assumption)).mono ?_; rintro e w' ⟨rfl, hb⟩))
  go_ret
  exact ⟨ret_int (by decide), by first | assumption | exact BW.new (by assumption) _⟩
theorem oc_35 : OcAt 35 := by
  intro w
  have HS := fun w1 h => sort_bw w w1 h 35 (by decide) (by decide)
  have HN := fun w1 h => name_bw w w1 h 35 (by decide) (by decide)
  have HB : BW w w := Below.refl _ _
  rw [show srt 35 = 7 by decide] at HS
  rw [show tx (nmO 35) = .string ⟨#[97, 100, 100]⟩ from rfl] at HN
  have e0 : ∀ h, ((⟨#[97, 100, 100]⟩ : ByteArray)[2]'h).toNat = 100 := fun _ => rfl
  go_enter Tryd.func9, Tryd.ntmps9
  go_wp2_with (first
    | (go_at_call 19; refine (HS _ (by assumption)).mono ?_; rintro e w' ⟨rfl, hb⟩)
    | (go_at_call 18; refine (HN _ (by assumption)).mono ?_; rintro e w' ⟨rfl, hb⟩))
  go_ret
  exact ⟨ret_int (by decide), by first | assumption | exact BW.new (by assumption) _⟩
theorem oc_36 : OcAt 36 := by
  intro w
  have HS := fun w1 h => sort_bw w w1 h 36 (by decide) (by decide)
  have HN := fun w1 h => name_bw w w1 h 36 (by decide) (by decide)
  have HB : BW w w := Below.refl _ _
  rw [show srt 36 = 7 by decide] at HS
  rw [show tx (nmO 36) = .string ⟨#[115, 117, 98]⟩ from rfl] at HN
  have e0 : ∀ h, ((⟨#[115, 117, 98]⟩ : ByteArray)[2]'h).toNat = 98 := fun _ => rfl
  go_enter Tryd.func9, Tryd.ntmps9
  go_wp2_with (first
    | (go_at_call 19; refine (HS _ (by assumption)).mono ?_; rintro e w' ⟨rfl, hb⟩)
    | (go_at_call 18; refine (HN _ (by assumption)).mono ?_; rintro e w' ⟨rfl, hb⟩))
  go_ret
  exact ⟨ret_int (by decide), by first | assumption | exact BW.new (by assumption) _⟩
theorem oc_37 : OcAt 37 := by
  intro w
  have HS := fun w1 h => sort_bw w w1 h 37 (by decide) (by decide)
  have HN := fun w1 h => name_bw w w1 h 37 (by decide) (by decide)
  have HB : BW w w := Below.refl _ _
  rw [show srt 37 = 7 by decide] at HS
  rw [show tx (nmO 37) = .string ⟨#[115, 108, 108]⟩ from rfl] at HN
  have e0 : ∀ h, ((⟨#[115, 108, 108]⟩ : ByteArray)[2]'h).toNat = 108 := fun _ => rfl
  go_enter Tryd.func9, Tryd.ntmps9
  go_wp2_with (first
    | (go_at_call 19; refine (HS _ (by assumption)).mono ?_; rintro e w' ⟨rfl, hb⟩)
    | (go_at_call 18; refine (HN _ (by assumption)).mono ?_; rintro e w' ⟨rfl, hb⟩))
  go_ret
  exact ⟨ret_int (by decide), by first | assumption | exact BW.new (by assumption) _⟩
theorem oc_38 : OcAt 38 := by
  intro w
  have HS := fun w1 h => sort_bw w w1 h 38 (by decide) (by decide)
  have HN := fun w1 h => name_bw w w1 h 38 (by decide) (by decide)
  have HB : BW w w := Below.refl _ _
  rw [show srt 38 = 7 by decide] at HS
  rw [show tx (nmO 38) = .string ⟨#[115, 108, 116]⟩ from rfl] at HN
  have e0 : ∀ h, ((⟨#[115, 108, 116]⟩ : ByteArray)[2]'h).toNat = 116 := fun _ => rfl
  go_enter Tryd.func9, Tryd.ntmps9
  go_wp2_with (first
    | (go_at_call 19; refine (HS _ (by assumption)).mono ?_; rintro e w' ⟨rfl, hb⟩)
    | (go_at_call 18; refine (HN _ (by assumption)).mono ?_; rintro e w' ⟨rfl, hb⟩))
  go_ret
  exact ⟨ret_int (by decide), by first | assumption | exact BW.new (by assumption) _⟩
theorem oc_39 : OcAt 39 := by
  intro w
  have HS := fun w1 h => sort_bw w w1 h 39 (by decide) (by decide)
  have HN := fun w1 h => name_bw w w1 h 39 (by decide) (by decide)
  have HB : BW w w := Below.refl _ _
  rw [show srt 39 = 7 by decide] at HS
  rw [show tx (nmO 39) = .string ⟨#[115, 108, 116, 117]⟩ from rfl] at HN
  have e0 : ∀ h, ((⟨#[115, 108, 116, 117]⟩ : ByteArray)[3]'h).toNat = 117 := fun _ => rfl
  go_enter Tryd.func9, Tryd.ntmps9
  go_wp2_with (first
    | (go_at_call 19; refine (HS _ (by assumption)).mono ?_; rintro e w' ⟨rfl, hb⟩)
    | (go_at_call 18; refine (HN _ (by assumption)).mono ?_; rintro e w' ⟨rfl, hb⟩))
  go_ret
  exact ⟨ret_int (by decide), by first | assumption | exact BW.new (by assumption) _⟩
theorem oc_40 : OcAt 40 := by
  intro w
  have HS := fun w1 h => sort_bw w w1 h 40 (by decide) (by decide)
  have HN := fun w1 h => name_bw w w1 h 40 (by decide) (by decide)
  have HB : BW w w := Below.refl _ _
  rw [show srt 40 = 7 by decide] at HS
  rw [show tx (nmO 40) = .string ⟨#[120, 111, 114]⟩ from rfl] at HN
  have e0 : ∀ h, ((⟨#[120, 111, 114]⟩ : ByteArray)[2]'h).toNat = 114 := fun _ => rfl
  go_enter Tryd.func9, Tryd.ntmps9
  go_wp2_with (first
    | (go_at_call 19; refine (HS _ (by assumption)).mono ?_; rintro e w' ⟨rfl, hb⟩)
    | (go_at_call 18; refine (HN _ (by assumption)).mono ?_; rintro e w' ⟨rfl, hb⟩))
  go_ret
  exact ⟨ret_int (by decide), by first | assumption | exact BW.new (by assumption) _⟩
theorem oc_41 : OcAt 41 := by
  intro w
  have HS := fun w1 h => sort_bw w w1 h 41 (by decide) (by decide)
  have HN := fun w1 h => name_bw w w1 h 41 (by decide) (by decide)
  have HB : BW w w := Below.refl _ _
  rw [show srt 41 = 7 by decide] at HS
  rw [show tx (nmO 41) = .string ⟨#[115, 114, 108]⟩ from rfl] at HN
  have e0 : ∀ h, ((⟨#[115, 114, 108]⟩ : ByteArray)[2]'h).toNat = 108 := fun _ => rfl
  go_enter Tryd.func9, Tryd.ntmps9
  go_wp2_with (first
    | (go_at_call 19; refine (HS _ (by assumption)).mono ?_; rintro e w' ⟨rfl, hb⟩)
    | (go_at_call 18; refine (HN _ (by assumption)).mono ?_; rintro e w' ⟨rfl, hb⟩))
  go_ret
  exact ⟨ret_int (by decide), by first | assumption | exact BW.new (by assumption) _⟩
theorem oc_42 : OcAt 42 := by
  intro w
  have HS := fun w1 h => sort_bw w w1 h 42 (by decide) (by decide)
  have HN := fun w1 h => name_bw w w1 h 42 (by decide) (by decide)
  have HB : BW w w := Below.refl _ _
  rw [show srt 42 = 7 by decide] at HS
  rw [show tx (nmO 42) = .string ⟨#[115, 114, 97]⟩ from rfl] at HN
  have e0 : ∀ h, ((⟨#[115, 114, 97]⟩ : ByteArray)[2]'h).toNat = 97 := fun _ => rfl
  go_enter Tryd.func9, Tryd.ntmps9
  go_wp2_with (first
    | (go_at_call 19; refine (HS _ (by assumption)).mono ?_; rintro e w' ⟨rfl, hb⟩)
    | (go_at_call 18; refine (HN _ (by assumption)).mono ?_; rintro e w' ⟨rfl, hb⟩))
  go_ret
  exact ⟨ret_int (by decide), by first | assumption | exact BW.new (by assumption) _⟩
theorem oc_43 : OcAt 43 := by
  intro w
  have HS := fun w1 h => sort_bw w w1 h 43 (by decide) (by decide)
  have HN := fun w1 h => name_bw w w1 h 43 (by decide) (by decide)
  have HB : BW w w := Below.refl _ _
  rw [show srt 43 = 7 by decide] at HS
  rw [show tx (nmO 43) = .string ⟨#[111, 114]⟩ from rfl] at HN
  have e0 : ∀ h, ((⟨#[111, 114]⟩ : ByteArray)[1]'h).toNat = 114 := fun _ => rfl
  go_enter Tryd.func9, Tryd.ntmps9
  go_wp2_with (first
    | (go_at_call 19; refine (HS _ (by assumption)).mono ?_; rintro e w' ⟨rfl, hb⟩)
    | (go_at_call 18; refine (HN _ (by assumption)).mono ?_; rintro e w' ⟨rfl, hb⟩))
  go_ret
  exact ⟨ret_int (by decide), by first | assumption | exact BW.new (by assumption) _⟩
theorem oc_44 : OcAt 44 := by
  intro w
  have HS := fun w1 h => sort_bw w w1 h 44 (by decide) (by decide)
  have HN := fun w1 h => name_bw w w1 h 44 (by decide) (by decide)
  have HB : BW w w := Below.refl _ _
  rw [show srt 44 = 7 by decide] at HS
  rw [show tx (nmO 44) = .string ⟨#[97, 110, 100]⟩ from rfl] at HN
  have e0 : ∀ h, ((⟨#[97, 110, 100]⟩ : ByteArray)[2]'h).toNat = 100 := fun _ => rfl
  go_enter Tryd.func9, Tryd.ntmps9
  go_wp2_with (first
    | (go_at_call 19; refine (HS _ (by assumption)).mono ?_; rintro e w' ⟨rfl, hb⟩)
    | (go_at_call 18; refine (HN _ (by assumption)).mono ?_; rintro e w' ⟨rfl, hb⟩))
  go_ret
  exact ⟨ret_int (by decide), by first | assumption | exact BW.new (by assumption) _⟩
theorem oc_45 : OcAt 45 := by
  intro w
  have HS := fun w1 h => sort_bw w w1 h 45 (by decide) (by decide)
  have HN := fun w1 h => name_bw w w1 h 45 (by decide) (by decide)
  have HB : BW w w := Below.refl _ _
  rw [show srt 45 = 7 by decide] at HS
  rw [show tx (nmO 45) = .string ⟨#[97, 100, 100, 119]⟩ from rfl] at HN
  have e0 : ∀ h, ((⟨#[97, 100, 100, 119]⟩ : ByteArray)[3]'h).toNat = 119 := fun _ => rfl
  go_enter Tryd.func9, Tryd.ntmps9
  go_wp2_with (first
    | (go_at_call 19; refine (HS _ (by assumption)).mono ?_; rintro e w' ⟨rfl, hb⟩)
    | (go_at_call 18; refine (HN _ (by assumption)).mono ?_; rintro e w' ⟨rfl, hb⟩))
  go_ret
  exact ⟨ret_int (by decide), by first | assumption | exact BW.new (by assumption) _⟩
theorem oc_46 : OcAt 46 := by
  intro w
  have HS := fun w1 h => sort_bw w w1 h 46 (by decide) (by decide)
  have HN := fun w1 h => name_bw w w1 h 46 (by decide) (by decide)
  have HB : BW w w := Below.refl _ _
  rw [show srt 46 = 7 by decide] at HS
  rw [show tx (nmO 46) = .string ⟨#[115, 117, 98, 119]⟩ from rfl] at HN
  have e0 : ∀ h, ((⟨#[115, 117, 98, 119]⟩ : ByteArray)[3]'h).toNat = 119 := fun _ => rfl
  go_enter Tryd.func9, Tryd.ntmps9
  go_wp2_with (first
    | (go_at_call 19; refine (HS _ (by assumption)).mono ?_; rintro e w' ⟨rfl, hb⟩)
    | (go_at_call 18; refine (HN _ (by assumption)).mono ?_; rintro e w' ⟨rfl, hb⟩))
  go_ret
  exact ⟨ret_int (by decide), by first | assumption | exact BW.new (by assumption) _⟩
theorem oc_47 : OcAt 47 := by
  intro w
  have HS := fun w1 h => sort_bw w w1 h 47 (by decide) (by decide)
  have HN := fun w1 h => name_bw w w1 h 47 (by decide) (by decide)
  have HB : BW w w := Below.refl _ _
  rw [show srt 47 = 7 by decide] at HS
  rw [show tx (nmO 47) = .string ⟨#[115, 108, 108, 119]⟩ from rfl] at HN
  have e0 : ∀ h, ((⟨#[115, 108, 108, 119]⟩ : ByteArray)[3]'h).toNat = 119 := fun _ => rfl
  go_enter Tryd.func9, Tryd.ntmps9
  go_wp2_with (first
    | (go_at_call 19; refine (HS _ (by assumption)).mono ?_; rintro e w' ⟨rfl, hb⟩)
    | (go_at_call 18; refine (HN _ (by assumption)).mono ?_; rintro e w' ⟨rfl, hb⟩))
  go_ret
  exact ⟨ret_int (by decide), by first | assumption | exact BW.new (by assumption) _⟩
theorem oc_48 : OcAt 48 := by
  intro w
  have HS := fun w1 h => sort_bw w w1 h 48 (by decide) (by decide)
  have HN := fun w1 h => name_bw w w1 h 48 (by decide) (by decide)
  have HB : BW w w := Below.refl _ _
  rw [show srt 48 = 7 by decide] at HS
  rw [show tx (nmO 48) = .string ⟨#[115, 114, 108, 119]⟩ from rfl] at HN
  have e0 : ∀ h, ((⟨#[115, 114, 108, 119]⟩ : ByteArray)[3]'h).toNat = 119 := fun _ => rfl
  go_enter Tryd.func9, Tryd.ntmps9
  go_wp2_with (first
    | (go_at_call 19; refine (HS _ (by assumption)).mono ?_; rintro e w' ⟨rfl, hb⟩)
    | (go_at_call 18; refine (HN _ (by assumption)).mono ?_; rintro e w' ⟨rfl, hb⟩))
  go_ret
  exact ⟨ret_int (by decide), by first | assumption | exact BW.new (by assumption) _⟩
theorem oc_49 : OcAt 49 := by
  intro w
  have HS := fun w1 h => sort_bw w w1 h 49 (by decide) (by decide)
  have HN := fun w1 h => name_bw w w1 h 49 (by decide) (by decide)
  have HB : BW w w := Below.refl _ _
  rw [show srt 49 = 7 by decide] at HS
  rw [show tx (nmO 49) = .string ⟨#[115, 114, 97, 119]⟩ from rfl] at HN
  have e0 : ∀ h, ((⟨#[115, 114, 97, 119]⟩ : ByteArray)[3]'h).toNat = 119 := fun _ => rfl
  go_enter Tryd.func9, Tryd.ntmps9
  go_wp2_with (first
    | (go_at_call 19; refine (HS _ (by assumption)).mono ?_; rintro e w' ⟨rfl, hb⟩)
    | (go_at_call 18; refine (HN _ (by assumption)).mono ?_; rintro e w' ⟨rfl, hb⟩))
  go_ret
  exact ⟨ret_int (by decide), by first | assumption | exact BW.new (by assumption) _⟩
theorem oc_50 : OcAt 50 := by
  intro w
  have HS := fun w1 h => sort_bw w w1 h 50 (by decide) (by decide)
  have HN := fun w1 h => name_bw w w1 h 50 (by decide) (by decide)
  have HB : BW w w := Below.refl _ _
  rw [show srt 50 = 8 by decide] at HS
  rw [show tx (nmO 50) = .string ⟨#[102, 101, 110, 99, 101]⟩ from rfl] at HN
  have e0 : ∀ h, ((⟨#[102, 101, 110, 99, 101]⟩ : ByteArray)[4]'h).toNat = 101 := fun _ => rfl
  go_enter Tryd.func9, Tryd.ntmps9
  go_wp2_with (first
    | (go_at_call 19; refine (HS _ (by assumption)).mono ?_; rintro e w' ⟨rfl, hb⟩)
    | (go_at_call 18; refine (HN _ (by assumption)).mono ?_; rintro e w' ⟨rfl, hb⟩))
  go_ret
  exact ⟨ret_int (by decide), by first | assumption | exact BW.new (by assumption) _⟩
theorem oc_51 : OcAt 51 := by
  intro w
  have HS := fun w1 h => sort_bw w w1 h 51 (by decide) (by decide)
  have HN := fun w1 h => name_bw w w1 h 51 (by decide) (by decide)
  have HB : BW w w := Below.refl _ _
  rw [show srt 51 = 8 by decide] at HS
  rw [show tx (nmO 51) = .string ⟨#[102, 101, 110, 99, 101, 46, 116, 115, 111]⟩ from rfl] at HN
  have e0 : ∀ h, ((⟨#[102, 101, 110, 99, 101, 46, 116, 115, 111]⟩ : ByteArray)[8]'h).toNat = 111 := fun _ => rfl
  go_enter Tryd.func9, Tryd.ntmps9
  go_wp2_with (first
    | (go_at_call 19; refine (HS _ (by assumption)).mono ?_; rintro e w' ⟨rfl, hb⟩)
    | (go_at_call 18; refine (HN _ (by assumption)).mono ?_; rintro e w' ⟨rfl, hb⟩))
  go_ret
  exact ⟨ret_int (by decide), by first | assumption | exact BW.new (by assumption) _⟩
theorem oc_52 : OcAt 52 := by
  intro w
  have HS := fun w1 h => sort_bw w w1 h 52 (by decide) (by decide)
  have HN := fun w1 h => name_bw w w1 h 52 (by decide) (by decide)
  have HB : BW w w := Below.refl _ _
  rw [show srt 52 = 9 by decide] at HS
  rw [show tx (nmO 52) = .string ⟨#[101, 99, 97, 108, 108]⟩ from rfl] at HN
  have e0 : ∀ h, ((⟨#[101, 99, 97, 108, 108]⟩ : ByteArray)[4]'h).toNat = 108 := fun _ => rfl
  go_enter Tryd.func9, Tryd.ntmps9
  go_wp2_with (first
    | (go_at_call 19; refine (HS _ (by assumption)).mono ?_; rintro e w' ⟨rfl, hb⟩)
    | (go_at_call 18; refine (HN _ (by assumption)).mono ?_; rintro e w' ⟨rfl, hb⟩))
  go_ret
  exact ⟨ret_int (by decide), by first | assumption | exact BW.new (by assumption) _⟩
theorem oc_53 : OcAt 53 := by
  intro w
  have HS := fun w1 h => sort_bw w w1 h 53 (by decide) (by decide)
  have HN := fun w1 h => name_bw w w1 h 53 (by decide) (by decide)
  have HB : BW w w := Below.refl _ _
  rw [show srt 53 = 9 by decide] at HS
  rw [show tx (nmO 53) = .string ⟨#[101, 98, 114, 101, 97, 107]⟩ from rfl] at HN
  have e0 : ∀ h, ((⟨#[101, 98, 114, 101, 97, 107]⟩ : ByteArray)[5]'h).toNat = 107 := fun _ => rfl
  go_enter Tryd.func9, Tryd.ntmps9
  go_wp2_with (first
    | (go_at_call 19; refine (HS _ (by assumption)).mono ?_; rintro e w' ⟨rfl, hb⟩)
    | (go_at_call 18; refine (HN _ (by assumption)).mono ?_; rintro e w' ⟨rfl, hb⟩))
  go_ret
  exact ⟨ret_int (by decide), by first | assumption | exact BW.new (by assumption) _⟩
theorem oc_54 : OcAt 54 := by
  intro w
  have HS := fun w1 h => sort_bw w w1 h 54 (by decide) (by decide)
  have HN := fun w1 h => name_bw w w1 h 54 (by decide) (by decide)
  have HB : BW w w := Below.refl _ _
  rw [show srt 54 = 10 by decide] at HS
  rw [show tx (nmO 54) = .string ⟨#[108, 114, 46, 119]⟩ from rfl] at HN
  have e0 : ∀ h, ((⟨#[108, 114, 46, 119]⟩ : ByteArray)[3]'h).toNat = 119 := fun _ => rfl
  go_enter Tryd.func9, Tryd.ntmps9
  go_wp2_with (first
    | (go_at_call 19; refine (HS _ (by assumption)).mono ?_; rintro e w' ⟨rfl, hb⟩)
    | (go_at_call 18; refine (HN _ (by assumption)).mono ?_; rintro e w' ⟨rfl, hb⟩))
  go_ret
  exact ⟨ret_int (by decide), by first | assumption | exact BW.new (by assumption) _⟩
theorem oc_55 : OcAt 55 := by
  intro w
  have HS := fun w1 h => sort_bw w w1 h 55 (by decide) (by decide)
  have HN := fun w1 h => name_bw w w1 h 55 (by decide) (by decide)
  have HB : BW w w := Below.refl _ _
  rw [show srt 55 = 10 by decide] at HS
  rw [show tx (nmO 55) = .string ⟨#[108, 114, 46, 100]⟩ from rfl] at HN
  have e0 : ∀ h, ((⟨#[108, 114, 46, 100]⟩ : ByteArray)[3]'h).toNat = 100 := fun _ => rfl
  go_enter Tryd.func9, Tryd.ntmps9
  go_wp2_with (first
    | (go_at_call 19; refine (HS _ (by assumption)).mono ?_; rintro e w' ⟨rfl, hb⟩)
    | (go_at_call 18; refine (HN _ (by assumption)).mono ?_; rintro e w' ⟨rfl, hb⟩))
  go_ret
  exact ⟨ret_int (by decide), by first | assumption | exact BW.new (by assumption) _⟩
theorem oc_56 : OcAt 56 := by
  intro w
  have HS := fun w1 h => sort_bw w w1 h 56 (by decide) (by decide)
  have HN := fun w1 h => name_bw w w1 h 56 (by decide) (by decide)
  have HB : BW w w := Below.refl _ _
  rw [show srt 56 = 11 by decide] at HS
  rw [show tx (nmO 56) = .string ⟨#[115, 99, 46, 119]⟩ from rfl] at HN
  have e0 : ∀ h, ((⟨#[115, 99, 46, 119]⟩ : ByteArray)[3]'h).toNat = 119 := fun _ => rfl
  go_enter Tryd.func9, Tryd.ntmps9
  go_wp2_with (first
    | (go_at_call 19; refine (HS _ (by assumption)).mono ?_; rintro e w' ⟨rfl, hb⟩)
    | (go_at_call 18; refine (HN _ (by assumption)).mono ?_; rintro e w' ⟨rfl, hb⟩))
  go_ret
  exact ⟨ret_int (by decide), by first | assumption | exact BW.new (by assumption) _⟩
theorem oc_57 : OcAt 57 := by
  intro w
  have HS := fun w1 h => sort_bw w w1 h 57 (by decide) (by decide)
  have HN := fun w1 h => name_bw w w1 h 57 (by decide) (by decide)
  have HB : BW w w := Below.refl _ _
  rw [show srt 57 = 11 by decide] at HS
  rw [show tx (nmO 57) = .string ⟨#[115, 99, 46, 100]⟩ from rfl] at HN
  have e0 : ∀ h, ((⟨#[115, 99, 46, 100]⟩ : ByteArray)[3]'h).toNat = 100 := fun _ => rfl
  go_enter Tryd.func9, Tryd.ntmps9
  go_wp2_with (first
    | (go_at_call 19; refine (HS _ (by assumption)).mono ?_; rintro e w' ⟨rfl, hb⟩)
    | (go_at_call 18; refine (HN _ (by assumption)).mono ?_; rintro e w' ⟨rfl, hb⟩))
  go_ret
  exact ⟨ret_int (by decide), by first | assumption | exact BW.new (by assumption) _⟩
theorem oc_58 : OcAt 58 := by
  intro w
  have HS := fun w1 h => sort_bw w w1 h 58 (by decide) (by decide)
  have HN := fun w1 h => name_bw w w1 h 58 (by decide) (by decide)
  have HB : BW w w := Below.refl _ _
  rw [show srt 58 = 12 by decide] at HS
  rw [show tx (nmO 58) = .string ⟨#[97, 109, 111, 115, 119, 97, 112, 46, 119]⟩ from rfl] at HN
  have e0 : ∀ h, ((⟨#[97, 109, 111, 115, 119, 97, 112, 46, 119]⟩ : ByteArray)[8]'h).toNat = 119 := fun _ => rfl
  go_enter Tryd.func9, Tryd.ntmps9
  go_wp2_with (first
    | (go_at_call 19; refine (HS _ (by assumption)).mono ?_; rintro e w' ⟨rfl, hb⟩)
    | (go_at_call 18; refine (HN _ (by assumption)).mono ?_; rintro e w' ⟨rfl, hb⟩))
  go_ret
  exact ⟨ret_int (by decide), by first | assumption | exact BW.new (by assumption) _⟩
theorem oc_59 : OcAt 59 := by
  intro w
  have HS := fun w1 h => sort_bw w w1 h 59 (by decide) (by decide)
  have HN := fun w1 h => name_bw w w1 h 59 (by decide) (by decide)
  have HB : BW w w := Below.refl _ _
  rw [show srt 59 = 12 by decide] at HS
  rw [show tx (nmO 59) = .string ⟨#[97, 109, 111, 97, 100, 100, 46, 119]⟩ from rfl] at HN
  have e0 : ∀ h, ((⟨#[97, 109, 111, 97, 100, 100, 46, 119]⟩ : ByteArray)[7]'h).toNat = 119 := fun _ => rfl
  go_enter Tryd.func9, Tryd.ntmps9
  go_wp2_with (first
    | (go_at_call 19; refine (HS _ (by assumption)).mono ?_; rintro e w' ⟨rfl, hb⟩)
    | (go_at_call 18; refine (HN _ (by assumption)).mono ?_; rintro e w' ⟨rfl, hb⟩))
  go_ret
  exact ⟨ret_int (by decide), by first | assumption | exact BW.new (by assumption) _⟩
theorem oc_60 : OcAt 60 := by
  intro w
  have HS := fun w1 h => sort_bw w w1 h 60 (by decide) (by decide)
  have HN := fun w1 h => name_bw w w1 h 60 (by decide) (by decide)
  have HB : BW w w := Below.refl _ _
  rw [show srt 60 = 12 by decide] at HS
  rw [show tx (nmO 60) = .string ⟨#[97, 109, 111, 120, 111, 114, 46, 119]⟩ from rfl] at HN
  have e0 : ∀ h, ((⟨#[97, 109, 111, 120, 111, 114, 46, 119]⟩ : ByteArray)[7]'h).toNat = 119 := fun _ => rfl
  go_enter Tryd.func9, Tryd.ntmps9
  go_wp2_with (first
    | (go_at_call 19; refine (HS _ (by assumption)).mono ?_; rintro e w' ⟨rfl, hb⟩)
    | (go_at_call 18; refine (HN _ (by assumption)).mono ?_; rintro e w' ⟨rfl, hb⟩))
  go_ret
  exact ⟨ret_int (by decide), by first | assumption | exact BW.new (by assumption) _⟩
theorem oc_61 : OcAt 61 := by
  intro w
  have HS := fun w1 h => sort_bw w w1 h 61 (by decide) (by decide)
  have HN := fun w1 h => name_bw w w1 h 61 (by decide) (by decide)
  have HB : BW w w := Below.refl _ _
  rw [show srt 61 = 12 by decide] at HS
  rw [show tx (nmO 61) = .string ⟨#[97, 109, 111, 97, 110, 100, 46, 119]⟩ from rfl] at HN
  have e0 : ∀ h, ((⟨#[97, 109, 111, 97, 110, 100, 46, 119]⟩ : ByteArray)[7]'h).toNat = 119 := fun _ => rfl
  go_enter Tryd.func9, Tryd.ntmps9
  go_wp2_with (first
    | (go_at_call 19; refine (HS _ (by assumption)).mono ?_; rintro e w' ⟨rfl, hb⟩)
    | (go_at_call 18; refine (HN _ (by assumption)).mono ?_; rintro e w' ⟨rfl, hb⟩))
  go_ret
  exact ⟨ret_int (by decide), by first | assumption | exact BW.new (by assumption) _⟩
theorem oc_62 : OcAt 62 := by
  intro w
  have HS := fun w1 h => sort_bw w w1 h 62 (by decide) (by decide)
  have HN := fun w1 h => name_bw w w1 h 62 (by decide) (by decide)
  have HB : BW w w := Below.refl _ _
  rw [show srt 62 = 12 by decide] at HS
  rw [show tx (nmO 62) = .string ⟨#[97, 109, 111, 111, 114, 46, 119]⟩ from rfl] at HN
  have e0 : ∀ h, ((⟨#[97, 109, 111, 111, 114, 46, 119]⟩ : ByteArray)[6]'h).toNat = 119 := fun _ => rfl
  go_enter Tryd.func9, Tryd.ntmps9
  go_wp2_with (first
    | (go_at_call 19; refine (HS _ (by assumption)).mono ?_; rintro e w' ⟨rfl, hb⟩)
    | (go_at_call 18; refine (HN _ (by assumption)).mono ?_; rintro e w' ⟨rfl, hb⟩))
  go_ret
  exact ⟨ret_int (by decide), by first | assumption | exact BW.new (by assumption) _⟩
theorem oc_63 : OcAt 63 := by
  intro w
  have HS := fun w1 h => sort_bw w w1 h 63 (by decide) (by decide)
  have HN := fun w1 h => name_bw w w1 h 63 (by decide) (by decide)
  have HB : BW w w := Below.refl _ _
  rw [show srt 63 = 12 by decide] at HS
  rw [show tx (nmO 63) = .string ⟨#[97, 109, 111, 109, 105, 110, 46, 119]⟩ from rfl] at HN
  have e0 : ∀ h, ((⟨#[97, 109, 111, 109, 105, 110, 46, 119]⟩ : ByteArray)[7]'h).toNat = 119 := fun _ => rfl
  go_enter Tryd.func9, Tryd.ntmps9
  go_wp2_with (first
    | (go_at_call 19; refine (HS _ (by assumption)).mono ?_; rintro e w' ⟨rfl, hb⟩)
    | (go_at_call 18; refine (HN _ (by assumption)).mono ?_; rintro e w' ⟨rfl, hb⟩))
  go_ret
  exact ⟨ret_int (by decide), by first | assumption | exact BW.new (by assumption) _⟩
theorem oc_64 : OcAt 64 := by
  intro w
  have HS := fun w1 h => sort_bw w w1 h 64 (by decide) (by decide)
  have HN := fun w1 h => name_bw w w1 h 64 (by decide) (by decide)
  have HB : BW w w := Below.refl _ _
  rw [show srt 64 = 12 by decide] at HS
  rw [show tx (nmO 64) = .string ⟨#[97, 109, 111, 109, 97, 120, 46, 119]⟩ from rfl] at HN
  have e0 : ∀ h, ((⟨#[97, 109, 111, 109, 97, 120, 46, 119]⟩ : ByteArray)[7]'h).toNat = 119 := fun _ => rfl
  go_enter Tryd.func9, Tryd.ntmps9
  go_wp2_with (first
    | (go_at_call 19; refine (HS _ (by assumption)).mono ?_; rintro e w' ⟨rfl, hb⟩)
    | (go_at_call 18; refine (HN _ (by assumption)).mono ?_; rintro e w' ⟨rfl, hb⟩))
  go_ret
  exact ⟨ret_int (by decide), by first | assumption | exact BW.new (by assumption) _⟩
theorem oc_65 : OcAt 65 := by
  intro w
  have HS := fun w1 h => sort_bw w w1 h 65 (by decide) (by decide)
  have HN := fun w1 h => name_bw w w1 h 65 (by decide) (by decide)
  have HB : BW w w := Below.refl _ _
  rw [show srt 65 = 12 by decide] at HS
  rw [show tx (nmO 65) = .string ⟨#[97, 109, 111, 109, 105, 110, 117, 46, 119]⟩ from rfl] at HN
  have e0 : ∀ h, ((⟨#[97, 109, 111, 109, 105, 110, 117, 46, 119]⟩ : ByteArray)[8]'h).toNat = 119 := fun _ => rfl
  go_enter Tryd.func9, Tryd.ntmps9
  go_wp2_with (first
    | (go_at_call 19; refine (HS _ (by assumption)).mono ?_; rintro e w' ⟨rfl, hb⟩)
    | (go_at_call 18; refine (HN _ (by assumption)).mono ?_; rintro e w' ⟨rfl, hb⟩))
  go_ret
  exact ⟨ret_int (by decide), by first | assumption | exact BW.new (by assumption) _⟩
theorem oc_66 : OcAt 66 := by
  intro w
  have HS := fun w1 h => sort_bw w w1 h 66 (by decide) (by decide)
  have HN := fun w1 h => name_bw w w1 h 66 (by decide) (by decide)
  have HB : BW w w := Below.refl _ _
  rw [show srt 66 = 12 by decide] at HS
  rw [show tx (nmO 66) = .string ⟨#[97, 109, 111, 109, 97, 120, 117, 46, 119]⟩ from rfl] at HN
  have e0 : ∀ h, ((⟨#[97, 109, 111, 109, 97, 120, 117, 46, 119]⟩ : ByteArray)[8]'h).toNat = 119 := fun _ => rfl
  go_enter Tryd.func9, Tryd.ntmps9
  go_wp2_with (first
    | (go_at_call 19; refine (HS _ (by assumption)).mono ?_; rintro e w' ⟨rfl, hb⟩)
    | (go_at_call 18; refine (HN _ (by assumption)).mono ?_; rintro e w' ⟨rfl, hb⟩))
  go_ret
  exact ⟨ret_int (by decide), by first | assumption | exact BW.new (by assumption) _⟩
theorem oc_67 : OcAt 67 := by
  intro w
  have HS := fun w1 h => sort_bw w w1 h 67 (by decide) (by decide)
  have HN := fun w1 h => name_bw w w1 h 67 (by decide) (by decide)
  have HB : BW w w := Below.refl _ _
  rw [show srt 67 = 12 by decide] at HS
  rw [show tx (nmO 67) = .string ⟨#[97, 109, 111, 115, 119, 97, 112, 46, 100]⟩ from rfl] at HN
  have e0 : ∀ h, ((⟨#[97, 109, 111, 115, 119, 97, 112, 46, 100]⟩ : ByteArray)[8]'h).toNat = 100 := fun _ => rfl
  go_enter Tryd.func9, Tryd.ntmps9
  go_wp2_with (first
    | (go_at_call 19; refine (HS _ (by assumption)).mono ?_; rintro e w' ⟨rfl, hb⟩)
    | (go_at_call 18; refine (HN _ (by assumption)).mono ?_; rintro e w' ⟨rfl, hb⟩))
  go_ret
  exact ⟨ret_int (by decide), by first | assumption | exact BW.new (by assumption) _⟩
theorem oc_68 : OcAt 68 := by
  intro w
  have HS := fun w1 h => sort_bw w w1 h 68 (by decide) (by decide)
  have HN := fun w1 h => name_bw w w1 h 68 (by decide) (by decide)
  have HB : BW w w := Below.refl _ _
  rw [show srt 68 = 12 by decide] at HS
  rw [show tx (nmO 68) = .string ⟨#[97, 109, 111, 97, 100, 100, 46, 100]⟩ from rfl] at HN
  have e0 : ∀ h, ((⟨#[97, 109, 111, 97, 100, 100, 46, 100]⟩ : ByteArray)[7]'h).toNat = 100 := fun _ => rfl
  go_enter Tryd.func9, Tryd.ntmps9
  go_wp2_with (first
    | (go_at_call 19; refine (HS _ (by assumption)).mono ?_; rintro e w' ⟨rfl, hb⟩)
    | (go_at_call 18; refine (HN _ (by assumption)).mono ?_; rintro e w' ⟨rfl, hb⟩))
  go_ret
  exact ⟨ret_int (by decide), by first | assumption | exact BW.new (by assumption) _⟩
theorem oc_69 : OcAt 69 := by
  intro w
  have HS := fun w1 h => sort_bw w w1 h 69 (by decide) (by decide)
  have HN := fun w1 h => name_bw w w1 h 69 (by decide) (by decide)
  have HB : BW w w := Below.refl _ _
  rw [show srt 69 = 12 by decide] at HS
  rw [show tx (nmO 69) = .string ⟨#[97, 109, 111, 120, 111, 114, 46, 100]⟩ from rfl] at HN
  have e0 : ∀ h, ((⟨#[97, 109, 111, 120, 111, 114, 46, 100]⟩ : ByteArray)[7]'h).toNat = 100 := fun _ => rfl
  go_enter Tryd.func9, Tryd.ntmps9
  go_wp2_with (first
    | (go_at_call 19; refine (HS _ (by assumption)).mono ?_; rintro e w' ⟨rfl, hb⟩)
    | (go_at_call 18; refine (HN _ (by assumption)).mono ?_; rintro e w' ⟨rfl, hb⟩))
  go_ret
  exact ⟨ret_int (by decide), by first | assumption | exact BW.new (by assumption) _⟩
theorem oc_70 : OcAt 70 := by
  intro w
  have HS := fun w1 h => sort_bw w w1 h 70 (by decide) (by decide)
  have HN := fun w1 h => name_bw w w1 h 70 (by decide) (by decide)
  have HB : BW w w := Below.refl _ _
  rw [show srt 70 = 12 by decide] at HS
  rw [show tx (nmO 70) = .string ⟨#[97, 109, 111, 97, 110, 100, 46, 100]⟩ from rfl] at HN
  have e0 : ∀ h, ((⟨#[97, 109, 111, 97, 110, 100, 46, 100]⟩ : ByteArray)[7]'h).toNat = 100 := fun _ => rfl
  go_enter Tryd.func9, Tryd.ntmps9
  go_wp2_with (first
    | (go_at_call 19; refine (HS _ (by assumption)).mono ?_; rintro e w' ⟨rfl, hb⟩)
    | (go_at_call 18; refine (HN _ (by assumption)).mono ?_; rintro e w' ⟨rfl, hb⟩))
  go_ret
  exact ⟨ret_int (by decide), by first | assumption | exact BW.new (by assumption) _⟩
theorem oc_71 : OcAt 71 := by
  intro w
  have HS := fun w1 h => sort_bw w w1 h 71 (by decide) (by decide)
  have HN := fun w1 h => name_bw w w1 h 71 (by decide) (by decide)
  have HB : BW w w := Below.refl _ _
  rw [show srt 71 = 12 by decide] at HS
  rw [show tx (nmO 71) = .string ⟨#[97, 109, 111, 111, 114, 46, 100]⟩ from rfl] at HN
  have e0 : ∀ h, ((⟨#[97, 109, 111, 111, 114, 46, 100]⟩ : ByteArray)[6]'h).toNat = 100 := fun _ => rfl
  go_enter Tryd.func9, Tryd.ntmps9
  go_wp2_with (first
    | (go_at_call 19; refine (HS _ (by assumption)).mono ?_; rintro e w' ⟨rfl, hb⟩)
    | (go_at_call 18; refine (HN _ (by assumption)).mono ?_; rintro e w' ⟨rfl, hb⟩))
  go_ret
  exact ⟨ret_int (by decide), by first | assumption | exact BW.new (by assumption) _⟩
theorem oc_72 : OcAt 72 := by
  intro w
  have HS := fun w1 h => sort_bw w w1 h 72 (by decide) (by decide)
  have HN := fun w1 h => name_bw w w1 h 72 (by decide) (by decide)
  have HB : BW w w := Below.refl _ _
  rw [show srt 72 = 12 by decide] at HS
  rw [show tx (nmO 72) = .string ⟨#[97, 109, 111, 109, 105, 110, 46, 100]⟩ from rfl] at HN
  have e0 : ∀ h, ((⟨#[97, 109, 111, 109, 105, 110, 46, 100]⟩ : ByteArray)[7]'h).toNat = 100 := fun _ => rfl
  go_enter Tryd.func9, Tryd.ntmps9
  go_wp2_with (first
    | (go_at_call 19; refine (HS _ (by assumption)).mono ?_; rintro e w' ⟨rfl, hb⟩)
    | (go_at_call 18; refine (HN _ (by assumption)).mono ?_; rintro e w' ⟨rfl, hb⟩))
  go_ret
  exact ⟨ret_int (by decide), by first | assumption | exact BW.new (by assumption) _⟩
theorem oc_73 : OcAt 73 := by
  intro w
  have HS := fun w1 h => sort_bw w w1 h 73 (by decide) (by decide)
  have HN := fun w1 h => name_bw w w1 h 73 (by decide) (by decide)
  have HB : BW w w := Below.refl _ _
  rw [show srt 73 = 12 by decide] at HS
  rw [show tx (nmO 73) = .string ⟨#[97, 109, 111, 109, 97, 120, 46, 100]⟩ from rfl] at HN
  have e0 : ∀ h, ((⟨#[97, 109, 111, 109, 97, 120, 46, 100]⟩ : ByteArray)[7]'h).toNat = 100 := fun _ => rfl
  go_enter Tryd.func9, Tryd.ntmps9
  go_wp2_with (first
    | (go_at_call 19; refine (HS _ (by assumption)).mono ?_; rintro e w' ⟨rfl, hb⟩)
    | (go_at_call 18; refine (HN _ (by assumption)).mono ?_; rintro e w' ⟨rfl, hb⟩))
  go_ret
  exact ⟨ret_int (by decide), by first | assumption | exact BW.new (by assumption) _⟩
theorem oc_74 : OcAt 74 := by
  intro w
  have HS := fun w1 h => sort_bw w w1 h 74 (by decide) (by decide)
  have HN := fun w1 h => name_bw w w1 h 74 (by decide) (by decide)
  have HB : BW w w := Below.refl _ _
  rw [show srt 74 = 12 by decide] at HS
  rw [show tx (nmO 74) = .string ⟨#[97, 109, 111, 109, 105, 110, 117, 46, 100]⟩ from rfl] at HN
  have e0 : ∀ h, ((⟨#[97, 109, 111, 109, 105, 110, 117, 46, 100]⟩ : ByteArray)[8]'h).toNat = 100 := fun _ => rfl
  go_enter Tryd.func9, Tryd.ntmps9
  go_wp2_with (first
    | (go_at_call 19; refine (HS _ (by assumption)).mono ?_; rintro e w' ⟨rfl, hb⟩)
    | (go_at_call 18; refine (HN _ (by assumption)).mono ?_; rintro e w' ⟨rfl, hb⟩))
  go_ret
  exact ⟨ret_int (by decide), by first | assumption | exact BW.new (by assumption) _⟩
theorem oc_75 : OcAt 75 := by
  intro w
  have HS := fun w1 h => sort_bw w w1 h 75 (by decide) (by decide)
  have HN := fun w1 h => name_bw w w1 h 75 (by decide) (by decide)
  have HB : BW w w := Below.refl _ _
  rw [show srt 75 = 12 by decide] at HS
  rw [show tx (nmO 75) = .string ⟨#[97, 109, 111, 109, 97, 120, 117, 46, 100]⟩ from rfl] at HN
  have e0 : ∀ h, ((⟨#[97, 109, 111, 109, 97, 120, 117, 46, 100]⟩ : ByteArray)[8]'h).toNat = 100 := fun _ => rfl
  go_enter Tryd.func9, Tryd.ntmps9
  go_wp2_with (first
    | (go_at_call 19; refine (HS _ (by assumption)).mono ?_; rintro e w' ⟨rfl, hb⟩)
    | (go_at_call 18; refine (HN _ (by assumption)).mono ?_; rintro e w' ⟨rfl, hb⟩))
  go_ret
  exact ⟨ret_int (by decide), by first | assumption | exact BW.new (by assumption) _⟩
theorem oc_any (op : Int) (h : 1 ≤ op ∧ op ≤ 75) : OcAt op := by
  have hc : op = 1 ∨ op = 2 ∨ op = 3 ∨ op = 4 ∨ op = 5 ∨ op = 6 ∨ op = 7 ∨ op = 8 ∨ op = 9 ∨ op = 10 ∨ op = 11 ∨ op = 12 ∨ op = 13 ∨ op = 14 ∨ op = 15 ∨ op = 16 ∨ op = 17 ∨ op = 18 ∨ op = 19 ∨ op = 20 ∨ op = 21 ∨ op = 22 ∨ op = 23 ∨ op = 24 ∨ op = 25 ∨ op = 26 ∨ op = 27 ∨ op = 28 ∨ op = 29 ∨ op = 30 ∨ op = 31 ∨ op = 32 ∨ op = 33 ∨ op = 34 ∨ op = 35 ∨ op = 36 ∨ op = 37 ∨ op = 38 ∨ op = 39 ∨ op = 40 ∨ op = 41 ∨ op = 42 ∨ op = 43 ∨ op = 44 ∨ op = 45 ∨ op = 46 ∨ op = 47 ∨ op = 48 ∨ op = 49 ∨ op = 50 ∨ op = 51 ∨ op = 52 ∨ op = 53 ∨ op = 54 ∨ op = 55 ∨ op = 56 ∨ op = 57 ∨ op = 58 ∨ op = 59 ∨ op = 60 ∨ op = 61 ∨ op = 62 ∨ op = 63 ∨ op = 64 ∨ op = 65 ∨ op = 66 ∨ op = 67 ∨ op = 68 ∨ op = 69 ∨ op = 70 ∨ op = 71 ∨ op = 72 ∨ op = 73 ∨ op = 74 ∨ op = 75 := by omega
  rcases hc with rfl | rfl | rfl | rfl | rfl | rfl | rfl | rfl | rfl | rfl | rfl | rfl | rfl | rfl | rfl | rfl | rfl | rfl | rfl | rfl | rfl | rfl | rfl | rfl | rfl | rfl | rfl | rfl | rfl | rfl | rfl | rfl | rfl | rfl | rfl | rfl | rfl | rfl | rfl | rfl | rfl | rfl | rfl | rfl | rfl | rfl | rfl | rfl | rfl | rfl | rfl | rfl | rfl | rfl | rfl | rfl | rfl | rfl | rfl | rfl | rfl | rfl | rfl | rfl | rfl | rfl | rfl | rfl | rfl | rfl | rfl | rfl | rfl | rfl | rfl
  · exact oc_1
  · exact oc_2
  · exact oc_3
  · exact oc_4
  · exact oc_5
  · exact oc_6
  · exact oc_7
  · exact oc_8
  · exact oc_9
  · exact oc_10
  · exact oc_11
  · exact oc_12
  · exact oc_13
  · exact oc_14
  · exact oc_15
  · exact oc_16
  · exact oc_17
  · exact oc_18
  · exact oc_19
  · exact oc_20
  · exact oc_21
  · exact oc_22
  · exact oc_23
  · exact oc_24
  · exact oc_25
  · exact oc_26
  · exact oc_27
  · exact oc_28
  · exact oc_29
  · exact oc_30
  · exact oc_31
  · exact oc_32
  · exact oc_33
  · exact oc_34
  · exact oc_35
  · exact oc_36
  · exact oc_37
  · exact oc_38
  · exact oc_39
  · exact oc_40
  · exact oc_41
  · exact oc_42
  · exact oc_43
  · exact oc_44
  · exact oc_45
  · exact oc_46
  · exact oc_47
  · exact oc_48
  · exact oc_49
  · exact oc_50
  · exact oc_51
  · exact oc_52
  · exact oc_53
  · exact oc_54
  · exact oc_55
  · exact oc_56
  · exact oc_57
  · exact oc_58
  · exact oc_59
  · exact oc_60
  · exact oc_61
  · exact oc_62
  · exact oc_63
  · exact oc_64
  · exact oc_65
  · exact oc_66
  · exact oc_67
  · exact oc_68
  · exact oc_69
  · exact oc_70
  · exact oc_71
  · exact oc_72
  · exact oc_73
  · exact oc_74
  · exact oc_75
end Go.Proofs.YtbnacdhhacafkaaDoor
