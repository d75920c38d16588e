/- The contract of the document's Size: operation by operation. -/
import Derived.Test.YtebpoladoimjgaaDoorRows
import Derived.Test.YtebpoladoimjgaaDoorSz
import Derived.WalkKit
import Derived.WalkLawsBesides
import Derived.Deep.QuietTactic
import Derived.BigQuiet
import Derived.WalkSmall
import Derived.WalkSpells
import Derived.Lib.Hide
import Derived.Below
namespace Go.Proofs.YtebpoladoimjgaaDoor
open Go.RowKit

/-- The contract at one operation. -/
def SizeAt (op : Int) : Prop := ∀ w : World, Calls Tryd.prog 19 #[.int .i64 op] w fun e w' => e = .returned (.int .i64 (siz op)) ∧ BW w w'
theorem size_other {op : Int} (h0 : -9223372036854775808 ≤ op) (h1 : op ≤ 9223372036854775807) (h : op < 11 ∨ (22 ≤ op ∧ op ≤ 53) ∨ 75 < op) : SizeAt op := by
  intro w
  have HS := fun w1 h => sort_bw w w1 h op h0 h1
  have HN := fun w1 h => name_bw w w1 h op h0 h1
  have HB : BW w w := Below.refl _ _
  have HV : Hid (siz op = 0) := by
    show _ = _
    unfold siz
    split
    · have hall : ∀ k : Fin 75, (k.val < 10 ∨ (21 ≤ k.val ∧ k.val ≤ 52)) → szL.getD k.val 0 = 0 := by decide
      exact hall ⟨op.toNat - 1, by omega⟩ (by show op.toNat - 1 < 10 ∨ (21 ≤ op.toNat - 1 ∧ op.toNat - 1 ≤ 52); omega)
    · rfl
  have hk : srt op < 4 ∨ (¬ srt op < 4 ∧ 5 < srt op ∧ srt op < 10) := by
    rcases h with h | h | h
    · exact .inl (srt_low h)
    · have := srt_mid h.1 h.2; omega
    · have := srt_high h; omega
  clear h
  generalize srt op = k at *
  unfold tx at HN
  generalize bs (nmO op) = q at *
  rcases hk with hk | ⟨hk, hk2, hk3⟩
  · go_enter Tryd.func19, Tryd.ntmps19
    go_wp2_with (first
      | (go_at_call 18; refine (HS _ (by assumption)).mono ?_; rintro e w' ⟨rfl, hb⟩)
      | (go_at_call 23; refine (HN _ (by assumption)).mono ?_; rintro e w' ⟨rfl, hb⟩))
    go_ret
    exact ⟨ret_int HV.out.symm, by assumption⟩
  · go_enter Tryd.func19, Tryd.ntmps19
    go_wp2_with (first
      | (go_at_call 18; refine (HS _ (by assumption)).mono ?_; rintro e w' ⟨rfl, hb⟩)
      | (go_at_call 23; refine (HN _ (by assumption)).mono ?_; rintro e w' ⟨rfl, hb⟩))
    go_ret
    exact ⟨ret_int HV.out.symm, by assumption⟩
theorem size_11 : SizeAt 11 := by
  intro w
  have HS := fun w1 h => sort_bw w w1 h 11 (by decide) (by decide)
  have HN := fun w1 h => name_bw w w1 h 11 (by decide) (by decide)
  have HB : BW w w := Below.refl _ _
  rw [show srt 11 = 4 by decide] at HS
  rw [show tx (nmO 11) = .string ⟨#[108, 98]⟩ from rfl] at HN
  have e1 : ∀ h, ((⟨#[108, 98]⟩ : ByteArray)[1]'h).toNat = 98 := fun _ => rfl
  have e2 : ∀ h, ((⟨#[108, 98]⟩ : ByteArray)[0]'h).toNat = 108 := fun _ => rfl
  have HV : Hid (siz 11 = siz 11) := rfl
  go_enter Tryd.func19, Tryd.ntmps19
  go_wp2_with (first
    | (go_at_call 18; refine (HS _ (by assumption)).mono ?_; rintro e w' ⟨rfl, hb⟩)
    | (go_at_call 23; refine (HN _ (by assumption)).mono ?_; rintro e w' ⟨rfl, hb⟩))
  go_ret
  exact ⟨ret_int (by decide), by assumption⟩
theorem size_12 : SizeAt 12 := by
  intro w
  have HS := fun w1 h => sort_bw w w1 h 12 (by decide) (by decide)
  have HN := fun w1 h => name_bw w w1 h 12 (by decide) (by decide)
  have HB : BW w w := Below.refl _ _
  rw [show srt 12 = 4 by decide] at HS
  rw [show tx (nmO 12) = .string ⟨#[108, 104]⟩ from rfl] at HN
  have e1 : ∀ h, ((⟨#[108, 104]⟩ : ByteArray)[1]'h).toNat = 104 := fun _ => rfl
  have e2 : ∀ h, ((⟨#[108, 104]⟩ : ByteArray)[0]'h).toNat = 108 := fun _ => rfl
  have HV : Hid (siz 12 = siz 12) := rfl
  go_enter Tryd.func19, Tryd.ntmps19
  go_wp2_with (first
    | (go_at_call 18; refine (HS _ (by assumption)).mono ?_; rintro e w' ⟨rfl, hb⟩)
    | (go_at_call 23; refine (HN _ (by assumption)).mono ?_; rintro e w' ⟨rfl, hb⟩))
  go_ret
  exact ⟨ret_int (by decide), by assumption⟩
theorem size_13 : SizeAt 13 := by
  intro w
  have HS := fun w1 h => sort_bw w w1 h 13 (by decide) (by decide)
  have HN := fun w1 h => name_bw w w1 h 13 (by decide) (by decide)
  have HB : BW w w := Below.refl _ _
  rw [show srt 13 = 4 by decide] at HS
  rw [show tx (nmO 13) = .string ⟨#[108, 119]⟩ from rfl] at HN
  have e1 : ∀ h, ((⟨#[108, 119]⟩ : ByteArray)[1]'h).toNat = 119 := fun _ => rfl
  have e2 : ∀ h, ((⟨#[108, 119]⟩ : ByteArray)[0]'h).toNat = 108 := fun _ => rfl
  have HV : Hid (siz 13 = siz 13) := rfl
  go_enter Tryd.func19, Tryd.ntmps19
  go_wp2_with (first
    | (go_at_call 18; refine (HS _ (by assumption)).mono ?_; rintro e w' ⟨rfl, hb⟩)
    | (go_at_call 23; refine (HN _ (by assumption)).mono ?_; rintro e w' ⟨rfl, hb⟩))
  go_ret
  exact ⟨ret_int (by decide), by assumption⟩
theorem size_14 : SizeAt 14 := by
  intro w
  have HS := fun w1 h => sort_bw w w1 h 14 (by decide) (by decide)
  have HN := fun w1 h => name_bw w w1 h 14 (by decide) (by decide)
  have HB : BW w w := Below.refl _ _
  rw [show srt 14 = 4 by decide] at HS
  rw [show tx (nmO 14) = .string ⟨#[108, 100]⟩ from rfl] at HN
  have e1 : ∀ h, ((⟨#[108, 100]⟩ : ByteArray)[1]'h).toNat = 100 := fun _ => rfl
  have e2 : ∀ h, ((⟨#[108, 100]⟩ : ByteArray)[0]'h).toNat = 108 := fun _ => rfl
  have HV : Hid (siz 14 = siz 14) := rfl
  go_enter Tryd.func19, Tryd.ntmps19
  go_wp2_with (first
    | (go_at_call 18; refine (HS _ (by assumption)).mono ?_; rintro e w' ⟨rfl, hb⟩)
    | (go_at_call 23; refine (HN _ (by assumption)).mono ?_; rintro e w' ⟨rfl, hb⟩))
  go_ret
  exact ⟨ret_int (by decide), by assumption⟩
theorem size_15 : SizeAt 15 := by
  intro w
  have HS := fun w1 h => sort_bw w w1 h 15 (by decide) (by decide)
  have HN := fun w1 h => name_bw w w1 h 15 (by decide) (by decide)
  have HB : BW w w := Below.refl _ _
  rw [show srt 15 = 4 by decide] at HS
  rw [show tx (nmO 15) = .string ⟨#[108, 98, 117]⟩ from rfl] at HN
  have e1 : ∀ h, ((⟨#[108, 98, 117]⟩ : ByteArray)[2]'h).toNat = 117 := fun _ => rfl
  have e2 : ∀ h, ((⟨#[108, 98, 117]⟩ : ByteArray)[1]'h).toNat = 98 := fun _ => rfl
  have HV : Hid (siz 15 = siz 15) := rfl
  go_enter Tryd.func19, Tryd.ntmps19
  go_wp2_with (first
    | (go_at_call 18; refine (HS _ (by assumption)).mono ?_; rintro e w' ⟨rfl, hb⟩)
    | (go_at_call 23; refine (HN _ (by assumption)).mono ?_; rintro e w' ⟨rfl, hb⟩))
  go_ret
  exact ⟨ret_int (by decide), by assumption⟩
theorem size_16 : SizeAt 16 := by
  intro w
  have HS := fun w1 h => sort_bw w w1 h 16 (by decide) (by decide)
  have HN := fun w1 h => name_bw w w1 h 16 (by decide) (by decide)
  have HB : BW w w := Below.refl _ _
  rw [show srt 16 = 4 by decide] at HS
  rw [show tx (nmO 16) = .string ⟨#[108, 104, 117]⟩ from rfl] at HN
  have e1 : ∀ h, ((⟨#[108, 104, 117]⟩ : ByteArray)[2]'h).toNat = 117 := fun _ => rfl
  have e2 : ∀ h, ((⟨#[108, 104, 117]⟩ : ByteArray)[1]'h).toNat = 104 := fun _ => rfl
  have HV : Hid (siz 16 = siz 16) := rfl
  go_enter Tryd.func19, Tryd.ntmps19
  go_wp2_with (first
    | (go_at_call 18; refine (HS _ (by assumption)).mono ?_; rintro e w' ⟨rfl, hb⟩)
    | (go_at_call 23; refine (HN _ (by assumption)).mono ?_; rintro e w' ⟨rfl, hb⟩))
  go_ret
  exact ⟨ret_int (by decide), by assumption⟩
theorem size_17 : SizeAt 17 := by
  intro w
  have HS := fun w1 h => sort_bw w w1 h 17 (by decide) (by decide)
  have HN := fun w1 h => name_bw w w1 h 17 (by decide) (by decide)
  have HB : BW w w := Below.refl _ _
  rw [show srt 17 = 4 by decide] at HS
  rw [show tx (nmO 17) = .string ⟨#[108, 119, 117]⟩ from rfl] at HN
  have e1 : ∀ h, ((⟨#[108, 119, 117]⟩ : ByteArray)[2]'h).toNat = 117 := fun _ => rfl
  have e2 : ∀ h, ((⟨#[108, 119, 117]⟩ : ByteArray)[1]'h).toNat = 119 := fun _ => rfl
  have HV : Hid (siz 17 = siz 17) := rfl
  go_enter Tryd.func19, Tryd.ntmps19
  go_wp2_with (first
    | (go_at_call 18; refine (HS _ (by assumption)).mono ?_; rintro e w' ⟨rfl, hb⟩)
    | (go_at_call 23; refine (HN _ (by assumption)).mono ?_; rintro e w' ⟨rfl, hb⟩))
  go_ret
  exact ⟨ret_int (by decide), by assumption⟩
theorem size_18 : SizeAt 18 := by
  intro w
  have HS := fun w1 h => sort_bw w w1 h 18 (by decide) (by decide)
  have HN := fun w1 h => name_bw w w1 h 18 (by decide) (by decide)
  have HB : BW w w := Below.refl _ _
  rw [show srt 18 = 5 by decide] at HS
  rw [show tx (nmO 18) = .string ⟨#[115, 98]⟩ from rfl] at HN
  have e1 : ∀ h, ((⟨#[115, 98]⟩ : ByteArray)[1]'h).toNat = 98 := fun _ => rfl
  have e2 : ∀ h, ((⟨#[115, 98]⟩ : ByteArray)[0]'h).toNat = 115 := fun _ => rfl
  have HV : Hid (siz 18 = siz 18) := rfl
  go_enter Tryd.func19, Tryd.ntmps19
  go_wp2_with (first
    | (go_at_call 18; refine (HS _ (by assumption)).mono ?_; rintro e w' ⟨rfl, hb⟩)
    | (go_at_call 23; refine (HN _ (by assumption)).mono ?_; rintro e w' ⟨rfl, hb⟩))
  go_ret
  exact ⟨ret_int (by decide), by assumption⟩
theorem size_19 : SizeAt 19 := by
  intro w
  have HS := fun w1 h => sort_bw w w1 h 19 (by decide) (by decide)
  have HN := fun w1 h => name_bw w w1 h 19 (by decide) (by decide)
  have HB : BW w w := Below.refl _ _
  rw [show srt 19 = 5 by decide] at HS
  rw [show tx (nmO 19) = .string ⟨#[115, 104]⟩ from rfl] at HN
  have e1 : ∀ h, ((⟨#[115, 104]⟩ : ByteArray)[1]'h).toNat = 104 := fun _ => rfl
  have e2 : ∀ h, ((⟨#[115, 104]⟩ : ByteArray)[0]'h).toNat = 115 := fun _ => rfl
  have HV : Hid (siz 19 = siz 19) := rfl
  go_enter Tryd.func19, Tryd.ntmps19
  go_wp2_with (first
    | (go_at_call 18; refine (HS _ (by assumption)).mono ?_; rintro e w' ⟨rfl, hb⟩)
    | (go_at_call 23; refine (HN _ (by assumption)).mono ?_; rintro e w' ⟨rfl, hb⟩))
  go_ret
  exact ⟨ret_int (by decide), by assumption⟩
theorem size_20 : SizeAt 20 := by
  intro w
  have HS := fun w1 h => sort_bw w w1 h 20 (by decide) (by decide)
  have HN := fun w1 h => name_bw w w1 h 20 (by decide) (by decide)
  have HB : BW w w := Below.refl _ _
  rw [show srt 20 = 5 by decide] at HS
  rw [show tx (nmO 20) = .string ⟨#[115, 119]⟩ from rfl] at HN
  have e1 : ∀ h, ((⟨#[115, 119]⟩ : ByteArray)[1]'h).toNat = 119 := fun _ => rfl
  have e2 : ∀ h, ((⟨#[115, 119]⟩ : ByteArray)[0]'h).toNat = 115 := fun _ => rfl
  have HV : Hid (siz 20 = siz 20) := rfl
  go_enter Tryd.func19, Tryd.ntmps19
  go_wp2_with (first
    | (go_at_call 18; refine (HS _ (by assumption)).mono ?_; rintro e w' ⟨rfl, hb⟩)
    | (go_at_call 23; refine (HN _ (by assumption)).mono ?_; rintro e w' ⟨rfl, hb⟩))
  go_ret
  exact ⟨ret_int (by decide), by assumption⟩
theorem size_21 : SizeAt 21 := by
  intro w
  have HS := fun w1 h => sort_bw w w1 h 21 (by decide) (by decide)
  have HN := fun w1 h => name_bw w w1 h 21 (by decide) (by decide)
  have HB : BW w w := Below.refl _ _
  rw [show srt 21 = 5 by decide] at HS
  rw [show tx (nmO 21) = .string ⟨#[115, 100]⟩ from rfl] at HN
  have e1 : ∀ h, ((⟨#[115, 100]⟩ : ByteArray)[1]'h).toNat = 100 := fun _ => rfl
  have e2 : ∀ h, ((⟨#[115, 100]⟩ : ByteArray)[0]'h).toNat = 115 := fun _ => rfl
  have HV : Hid (siz 21 = siz 21) := rfl
  go_enter Tryd.func19, Tryd.ntmps19
  go_wp2_with (first
    | (go_at_call 18; refine (HS _ (by assumption)).mono ?_; rintro e w' ⟨rfl, hb⟩)
    | (go_at_call 23; refine (HN _ (by assumption)).mono ?_; rintro e w' ⟨rfl, hb⟩))
  go_ret
  exact ⟨ret_int (by decide), by assumption⟩
theorem size_54 : SizeAt 54 := by
  intro w
  have HS := fun w1 h => sort_bw w w1 h 54 (by decide) (by decide)
  have HN := fun w1 h => name_bw w w1 h 54 (by decide) (by decide)
  have HB : BW w w := Below.refl _ _
  rw [show srt 54 = 10 by decide] at HS
  rw [show tx (nmO 54) = .string ⟨#[108, 114, 46, 119]⟩ from rfl] at HN
  have e1 : ∀ h, ((⟨#[108, 114, 46, 119]⟩ : ByteArray)[3]'h).toNat = 119 := fun _ => rfl
  have e2 : ∀ h, ((⟨#[108, 114, 46, 119]⟩ : ByteArray)[2]'h).toNat = 46 := fun _ => rfl
  have HV : Hid (siz 54 = siz 54) := rfl
  go_enter Tryd.func19, Tryd.ntmps19
  go_wp2_with (first
    | (go_at_call 18; refine (HS _ (by assumption)).mono ?_; rintro e w' ⟨rfl, hb⟩)
    | (go_at_call 23; refine (HN _ (by assumption)).mono ?_; rintro e w' ⟨rfl, hb⟩))
  go_ret
  exact ⟨ret_int (by decide), by assumption⟩
theorem size_55 : SizeAt 55 := by
  intro w
  have HS := fun w1 h => sort_bw w w1 h 55 (by decide) (by decide)
  have HN := fun w1 h => name_bw w w1 h 55 (by decide) (by decide)
  have HB : BW w w := Below.refl _ _
  rw [show srt 55 = 10 by decide] at HS
  rw [show tx (nmO 55) = .string ⟨#[108, 114, 46, 100]⟩ from rfl] at HN
  have e1 : ∀ h, ((⟨#[108, 114, 46, 100]⟩ : ByteArray)[3]'h).toNat = 100 := fun _ => rfl
  have e2 : ∀ h, ((⟨#[108, 114, 46, 100]⟩ : ByteArray)[2]'h).toNat = 46 := fun _ => rfl
  have HV : Hid (siz 55 = siz 55) := rfl
  go_enter Tryd.func19, Tryd.ntmps19
  go_wp2_with (first
    | (go_at_call 18; refine (HS _ (by assumption)).mono ?_; rintro e w' ⟨rfl, hb⟩)
    | (go_at_call 23; refine (HN _ (by assumption)).mono ?_; rintro e w' ⟨rfl, hb⟩))
  go_ret
  exact ⟨ret_int (by decide), by assumption⟩
theorem size_56 : SizeAt 56 := by
  intro w
  have HS := fun w1 h => sort_bw w w1 h 56 (by decide) (by decide)
  have HN := fun w1 h => name_bw w w1 h 56 (by decide) (by decide)
  have HB : BW w w := Below.refl _ _
  rw [show srt 56 = 11 by decide] at HS
  rw [show tx (nmO 56) = .string ⟨#[115, 99, 46, 119]⟩ from rfl] at HN
  have e1 : ∀ h, ((⟨#[115, 99, 46, 119]⟩ : ByteArray)[3]'h).toNat = 119 := fun _ => rfl
  have e2 : ∀ h, ((⟨#[115, 99, 46, 119]⟩ : ByteArray)[2]'h).toNat = 46 := fun _ => rfl
  have HV : Hid (siz 56 = siz 56) := rfl
  go_enter Tryd.func19, Tryd.ntmps19
  go_wp2_with (first
    | (go_at_call 18; refine (HS _ (by assumption)).mono ?_; rintro e w' ⟨rfl, hb⟩)
    | (go_at_call 23; refine (HN _ (by assumption)).mono ?_; rintro e w' ⟨rfl, hb⟩))
  go_ret
  exact ⟨ret_int (by decide), by assumption⟩
theorem size_57 : SizeAt 57 := by
  intro w
  have HS := fun w1 h => sort_bw w w1 h 57 (by decide) (by decide)
  have HN := fun w1 h => name_bw w w1 h 57 (by decide) (by decide)
  have HB : BW w w := Below.refl _ _
  rw [show srt 57 = 11 by decide] at HS
  rw [show tx (nmO 57) = .string ⟨#[115, 99, 46, 100]⟩ from rfl] at HN
  have e1 : ∀ h, ((⟨#[115, 99, 46, 100]⟩ : ByteArray)[3]'h).toNat = 100 := fun _ => rfl
  have e2 : ∀ h, ((⟨#[115, 99, 46, 100]⟩ : ByteArray)[2]'h).toNat = 46 := fun _ => rfl
  have HV : Hid (siz 57 = siz 57) := rfl
  go_enter Tryd.func19, Tryd.ntmps19
  go_wp2_with (first
    | (go_at_call 18; refine (HS _ (by assumption)).mono ?_; rintro e w' ⟨rfl, hb⟩)
    | (go_at_call 23; refine (HN _ (by assumption)).mono ?_; rintro e w' ⟨rfl, hb⟩))
  go_ret
  exact ⟨ret_int (by decide), by assumption⟩
theorem size_58 : SizeAt 58 := by
  intro w
  have HS := fun w1 h => sort_bw w w1 h 58 (by decide) (by decide)
  have HN := fun w1 h => name_bw w w1 h 58 (by decide) (by decide)
  have HB : BW w w := Below.refl _ _
  rw [show srt 58 = 12 by decide] at HS
  rw [show tx (nmO 58) = .string ⟨#[97, 109, 111, 115, 119, 97, 112, 46, 119]⟩ from rfl] at HN
  have e1 : ∀ h, ((⟨#[97, 109, 111, 115, 119, 97, 112, 46, 119]⟩ : ByteArray)[8]'h).toNat = 119 := fun _ => rfl
  have e2 : ∀ h, ((⟨#[97, 109, 111, 115, 119, 97, 112, 46, 119]⟩ : ByteArray)[7]'h).toNat = 46 := fun _ => rfl
  have HV : Hid (siz 58 = siz 58) := rfl
  go_enter Tryd.func19, Tryd.ntmps19
  go_wp2_with (first
    | (go_at_call 18; refine (HS _ (by assumption)).mono ?_; rintro e w' ⟨rfl, hb⟩)
    | (go_at_call 23; refine (HN _ (by assumption)).mono ?_; rintro e w' ⟨rfl, hb⟩))
  go_ret
  exact ⟨ret_int (by decide), by assumption⟩
theorem size_59 : SizeAt 59 := by
  intro w
  have HS := fun w1 h => sort_bw w w1 h 59 (by decide) (by decide)
  have HN := fun w1 h => name_bw w w1 h 59 (by decide) (by decide)
  have HB : BW w w := Below.refl _ _
  rw [show srt 59 = 12 by decide] at HS
  rw [show tx (nmO 59) = .string ⟨#[97, 109, 111, 97, 100, 100, 46, 119]⟩ from rfl] at HN
  have e1 : ∀ h, ((⟨#[97, 109, 111, 97, 100, 100, 46, 119]⟩ : ByteArray)[7]'h).toNat = 119 := fun _ => rfl
  have e2 : ∀ h, ((⟨#[97, 109, 111, 97, 100, 100, 46, 119]⟩ : ByteArray)[6]'h).toNat = 46 := fun _ => rfl
  have HV : Hid (siz 59 = siz 59) := rfl
  go_enter Tryd.func19, Tryd.ntmps19
  go_wp2_with (first
    | (go_at_call 18; refine (HS _ (by assumption)).mono ?_; rintro e w' ⟨rfl, hb⟩)
    | (go_at_call 23; refine (HN _ (by assumption)).mono ?_; rintro e w' ⟨rfl, hb⟩))
  go_ret
  exact ⟨ret_int (by decide), by assumption⟩
theorem size_60 : SizeAt 60 := by
  intro w
  have HS := fun w1 h => sort_bw w w1 h 60 (by decide) (by decide)
  have HN := fun w1 h => name_bw w w1 h 60 (by decide) (by decide)
  have HB : BW w w := Below.refl _ _
  rw [show srt 60 = 12 by decide] at HS
  rw [show tx (nmO 60) = .string ⟨#[97, 109, 111, 120, 111, 114, 46, 119]⟩ from rfl] at HN
  have e1 : ∀ h, ((⟨#[97, 109, 111, 120, 111, 114, 46, 119]⟩ : ByteArray)[7]'h).toNat = 119 := fun _ => rfl
  have e2 : ∀ h, ((⟨#[97, 109, 111, 120, 111, 114, 46, 119]⟩ : ByteArray)[6]'h).toNat = 46 := fun _ => rfl
  have HV : Hid (siz 60 = siz 60) := rfl
  go_enter Tryd.func19, Tryd.ntmps19
  go_wp2_with (first
    | (go_at_call 18; refine (HS _ (by assumption)).mono ?_; rintro e w' ⟨rfl, hb⟩)
    | (go_at_call 23; refine (HN _ (by assumption)).mono ?_; rintro e w' ⟨rfl, hb⟩))
  go_ret
  exact ⟨ret_int (by decide), by assumption⟩
theorem size_61 : SizeAt 61 := by
  intro w
  have HS := fun w1 h => sort_bw w w1 h 61 (by decide) (by decide)
  have HN := fun w1 h => name_bw w w1 h 61 (by decide) (by decide)
  have HB : BW w w := Below.refl _ _
  rw [show srt 61 = 12 by decide] at HS
  rw [show tx (nmO 61) = .string ⟨#[97, 109, 111, 97, 110, 100, 46, 119]⟩ from rfl] at HN
  have e1 : ∀ h, ((⟨#[97, 109, 111, 97, 110, 100, 46, 119]⟩ : ByteArray)[7]'h).toNat = 119 := fun _ => rfl
  have e2 : ∀ h, ((⟨#[97, 109, 111, 97, 110, 100, 46, 119]⟩ : ByteArray)[6]'h).toNat = 46 := fun _ => rfl
  have HV : Hid (siz 61 = siz 61) := rfl
  go_enter Tryd.func19, Tryd.ntmps19
  go_wp2_with (first
    | (go_at_call 18; refine (HS _ (by assumption)).mono ?_; rintro e w' ⟨rfl, hb⟩)
    | (go_at_call 23; refine (HN _ (by assumption)).mono ?_; rintro e w' ⟨rfl, hb⟩))
  go_ret
  exact ⟨ret_int (by decide), by assumption⟩
theorem size_62 : SizeAt 62 := by
  intro w
  have HS := fun w1 h => sort_bw w w1 h 62 (by decide) (by decide)
  have HN := fun w1 h => name_bw w w1 h 62 (by decide) (by decide)
  have HB : BW w w := Below.refl _ _
  rw [show srt 62 = 12 by decide] at HS
  rw [show tx (nmO 62) = .string ⟨#[97, 109, 111, 111, 114, 46, 119]⟩ from rfl] at HN
  have e1 : ∀ h, ((⟨#[97, 109, 111, 111, 114, 46, 119]⟩ : ByteArray)[6]'h).toNat = 119 := fun _ => rfl
  have e2 : ∀ h, ((⟨#[97, 109, 111, 111, 114, 46, 119]⟩ : ByteArray)[5]'h).toNat = 46 := fun _ => rfl
  have HV : Hid (siz 62 = siz 62) := rfl
  go_enter Tryd.func19, Tryd.ntmps19
  go_wp2_with (first
    | (go_at_call 18; refine (HS _ (by assumption)).mono ?_; rintro e w' ⟨rfl, hb⟩)
    | (go_at_call 23; refine (HN _ (by assumption)).mono ?_; rintro e w' ⟨rfl, hb⟩))
  go_ret
  exact ⟨ret_int (by decide), by assumption⟩
theorem size_63 : SizeAt 63 := by
  intro w
  have HS := fun w1 h => sort_bw w w1 h 63 (by decide) (by decide)
  have HN := fun w1 h => name_bw w w1 h 63 (by decide) (by decide)
  have HB : BW w w := Below.refl _ _
  rw [show srt 63 = 12 by decide] at HS
  rw [show tx (nmO 63) = .string ⟨#[97, 109, 111, 109, 105, 110, 46, 119]⟩ from rfl] at HN
  have e1 : ∀ h, ((⟨#[97, 109, 111, 109, 105, 110, 46, 119]⟩ : ByteArray)[7]'h).toNat = 119 := fun _ => rfl
  have e2 : ∀ h, ((⟨#[97, 109, 111, 109, 105, 110, 46, 119]⟩ : ByteArray)[6]'h).toNat = 46 := fun _ => rfl
  have HV : Hid (siz 63 = siz 63) := rfl
  go_enter Tryd.func19, Tryd.ntmps19
  go_wp2_with (first
    | (go_at_call 18; refine (HS _ (by assumption)).mono ?_; rintro e w' ⟨rfl, hb⟩)
    | (go_at_call 23; refine (HN _ (by assumption)).mono ?_; rintro e w' ⟨rfl, hb⟩))
  go_ret
  exact ⟨ret_int (by decide), by assumption⟩
theorem size_64 : SizeAt 64 := by
  intro w
  have HS := fun w1 h => sort_bw w w1 h 64 (by decide) (by decide)
  have HN := fun w1 h => name_bw w w1 h 64 (by decide) (by decide)
  have HB : BW w w := Below.refl _ _
  rw [show srt 64 = 12 by decide] at HS
  rw [show tx (nmO 64) = .string ⟨#[97, 109, 111, 109, 97, 120, 46, 119]⟩ from rfl] at HN
  have e1 : ∀ h, ((⟨#[97, 109, 111, 109, 97, 120, 46, 119]⟩ : ByteArray)[7]'h).toNat = 119 := fun _ => rfl
  have e2 : ∀ h, ((⟨#[97, 109, 111, 109, 97, 120, 46, 119]⟩ : ByteArray)[6]'h).toNat = 46 := fun _ => rfl
  have HV : Hid (siz 64 = siz 64) := rfl
  go_enter Tryd.func19, Tryd.ntmps19
  go_wp2_with (first
    | (go_at_call 18; refine (HS _ (by assumption)).mono ?_; rintro e w' ⟨rfl, hb⟩)
    | (go_at_call 23; refine (HN _ (by assumption)).mono ?_; rintro e w' ⟨rfl, hb⟩))
  go_ret
  exact ⟨ret_int (by decide), by assumption⟩
theorem size_65 : SizeAt 65 := by
  intro w
  have HS := fun w1 h => sort_bw w w1 h 65 (by decide) (by decide)
  have HN := fun w1 h => name_bw w w1 h 65 (by decide) (by decide)
  have HB : BW w w := Below.refl _ _
  rw [show srt 65 = 12 by decide] at HS
  rw [show tx (nmO 65) = .string ⟨#[97, 109, 111, 109, 105, 110, 117, 46, 119]⟩ from rfl] at HN
  have e1 : ∀ h, ((⟨#[97, 109, 111, 109, 105, 110, 117, 46, 119]⟩ : ByteArray)[8]'h).toNat = 119 := fun _ => rfl
  have e2 : ∀ h, ((⟨#[97, 109, 111, 109, 105, 110, 117, 46, 119]⟩ : ByteArray)[7]'h).toNat = 46 := fun _ => rfl
  have HV : Hid (siz 65 = siz 65) := rfl
  go_enter Tryd.func19, Tryd.ntmps19
  go_wp2_with (first
    | (go_at_call 18; refine (HS _ (by assumption)).mono ?_; rintro e w' ⟨rfl, hb⟩)
    | (go_at_call 23; refine (HN _ (by assumption)).mono ?_; rintro e w' ⟨rfl, hb⟩))
  go_ret
  exact ⟨ret_int (by decide), by assumption⟩
theorem size_66 : SizeAt 66 := by
  intro w
  have HS := fun w1 h => sort_bw w w1 h 66 (by decide) (by decide)
  have HN := fun w1 h => name_bw w w1 h 66 (by decide) (by decide)
  have HB : BW w w := Below.refl _ _
  rw [show srt 66 = 12 by decide] at HS
  rw [show tx (nmO 66) = .string ⟨#[97, 109, 111, 109, 97, 120, 117, 46, 119]⟩ from rfl] at HN
  have e1 : ∀ h, ((⟨#[97, 109, 111, 109, 97, 120, 117, 46, 119]⟩ : ByteArray)[8]'h).toNat = 119 := fun _ => rfl
  have e2 : ∀ h, ((⟨#[97, 109, 111, 109, 97, 120, 117, 46, 119]⟩ : ByteArray)[7]'h).toNat = 46 := fun _ => rfl
  have HV : Hid (siz 66 = siz 66) := rfl
  go_enter Tryd.func19, Tryd.ntmps19
  go_wp2_with (first
    | (go_at_call 18; refine (HS _ (by assumption)).mono ?_; rintro e w' ⟨rfl, hb⟩)
    | (go_at_call 23; refine (HN _ (by assumption)).mono ?_; rintro e w' ⟨rfl, hb⟩))
  go_ret
  exact ⟨ret_int (by decide), by assumption⟩
theorem size_67 : SizeAt 67 := by
  intro w
  have HS := fun w1 h => sort_bw w w1 h 67 (by decide) (by decide)
  have HN := fun w1 h => name_bw w w1 h 67 (by decide) (by decide)
  have HB : BW w w := Below.refl _ _
  rw [show srt 67 = 12 by decide] at HS
  rw [show tx (nmO 67) = .string ⟨#[97, 109, 111, 115, 119, 97, 112, 46, 100]⟩ from rfl] at HN
  have e1 : ∀ h, ((⟨#[97, 109, 111, 115, 119, 97, 112, 46, 100]⟩ : ByteArray)[8]'h).toNat = 100 := fun _ => rfl
  have e2 : ∀ h, ((⟨#[97, 109, 111, 115, 119, 97, 112, 46, 100]⟩ : ByteArray)[7]'h).toNat = 46 := fun _ => rfl
  have HV : Hid (siz 67 = siz 67) := rfl
  go_enter Tryd.func19, Tryd.ntmps19
  go_wp2_with (first
    | (go_at_call 18; refine (HS _ (by assumption)).mono ?_; rintro e w' ⟨rfl, hb⟩)
    | (go_at_call 23; refine (HN _ (by assumption)).mono ?_; rintro e w' ⟨rfl, hb⟩))
  go_ret
  exact ⟨ret_int (by decide), by assumption⟩
theorem size_68 : SizeAt 68 := by
  intro w
  have HS := fun w1 h => sort_bw w w1 h 68 (by decide) (by decide)
  have HN := fun w1 h => name_bw w w1 h 68 (by decide) (by decide)
  have HB : BW w w := Below.refl _ _
  rw [show srt 68 = 12 by decide] at HS
  rw [show tx (nmO 68) = .string ⟨#[97, 109, 111, 97, 100, 100, 46, 100]⟩ from rfl] at HN
  have e1 : ∀ h, ((⟨#[97, 109, 111, 97, 100, 100, 46, 100]⟩ : ByteArray)[7]'h).toNat = 100 := fun _ => rfl
  have e2 : ∀ h, ((⟨#[97, 109, 111, 97, 100, 100, 46, 100]⟩ : ByteArray)[6]'h).toNat = 46 := fun _ => rfl
  have HV : Hid (siz 68 = siz 68) := rfl
  go_enter Tryd.func19, Tryd.ntmps19
  go_wp2_with (first
    | (go_at_call 18; refine (HS _ (by assumption)).mono ?_; rintro e w' ⟨rfl, hb⟩)
    | (go_at_call 23; refine (HN _ (by assumption)).mono ?_; rintro e w' ⟨rfl, hb⟩))
  go_ret
  exact ⟨ret_int (by decide), by assumption⟩
theorem size_69 : SizeAt 69 := by
  intro w
  have HS := fun w1 h => sort_bw w w1 h 69 (by decide) (by decide)
  have HN := fun w1 h => name_bw w w1 h 69 (by decide) (by decide)
  have HB : BW w w := Below.refl _ _
  rw [show srt 69 = 12 by decide] at HS
  rw [show tx (nmO 69) = .string ⟨#[97, 109, 111, 120, 111, 114, 46, 100]⟩ from rfl] at HN
  have e1 : ∀ h, ((⟨#[97, 109, 111, 120, 111, 114, 46, 100]⟩ : ByteArray)[7]'h).toNat = 100 := fun _ => rfl
  have e2 : ∀ h, ((⟨#[97, 109, 111, 120, 111, 114, 46, 100]⟩ : ByteArray)[6]'h).toNat = 46 := fun _ => rfl
  have HV : Hid (siz 69 = siz 69) := rfl
  go_enter Tryd.func19, Tryd.ntmps19
  go_wp2_with (first
    | (go_at_call 18; refine (HS _ (by assumption)).mono ?_; rintro e w' ⟨rfl, hb⟩)
    | (go_at_call 23; refine (HN _ (by assumption)).mono ?_; rintro e w' ⟨rfl, hb⟩))
  go_ret
  exact ⟨ret_int (by decide), by assumption⟩
theorem size_70 : SizeAt 70 := by
  intro w
  have HS := fun w1 h => sort_bw w w1 h 70 (by decide) (by decide)
  have HN := fun w1 h => name_bw w w1 h 70 (by decide) (by decide)
  have HB : BW w w := Below.refl _ _
  rw [show srt 70 = 12 by decide] at HS
  rw [show tx (nmO 70) = .string ⟨#[97, 109, 111, 97, 110, 100, 46, 100]⟩ from rfl] at HN
  have e1 : ∀ h, ((⟨#[97, 109, 111, 97, 110, 100, 46, 100]⟩ : ByteArray)[7]'h).toNat = 100 := fun _ => rfl
  have e2 : ∀ h, ((⟨#[97, 109, 111, 97, 110, 100, 46, 100]⟩ : ByteArray)[6]'h).toNat = 46 := fun _ => rfl
  have HV : Hid (siz 70 = siz 70) := rfl
  go_enter Tryd.func19, Tryd.ntmps19
  go_wp2_with (first
    | (go_at_call 18; refine (HS _ (by assumption)).mono ?_; rintro e w' ⟨rfl, hb⟩)
    | (go_at_call 23; refine (HN _ (by assumption)).mono ?_; rintro e w' ⟨rfl, hb⟩))
  go_ret
  exact ⟨ret_int (by decide), by assumption⟩
theorem size_71 : SizeAt 71 := by
  intro w
  have HS := fun w1 h => sort_bw w w1 h 71 (by decide) (by decide)
  have HN := fun w1 h => name_bw w w1 h 71 (by decide) (by decide)
  have HB : BW w w := Below.refl _ _
  rw [show srt 71 = 12 by decide] at HS
  rw [show tx (nmO 71) = .string ⟨#[97, 109, 111, 111, 114, 46, 100]⟩ from rfl] at HN
  have e1 : ∀ h, ((⟨#[97, 109, 111, 111, 114, 46, 100]⟩ : ByteArray)[6]'h).toNat = 100 := fun _ => rfl
  have e2 : ∀ h, ((⟨#[97, 109, 111, 111, 114, 46, 100]⟩ : ByteArray)[5]'h).toNat = 46 := fun _ => rfl
  have HV : Hid (siz 71 = siz 71) := rfl
  go_enter Tryd.func19, Tryd.ntmps19
  go_wp2_with (first
    | (go_at_call 18; refine (HS _ (by assumption)).mono ?_; rintro e w' ⟨rfl, hb⟩)
    | (go_at_call 23; refine (HN _ (by assumption)).mono ?_; rintro e w' ⟨rfl, hb⟩))
  go_ret
  exact ⟨ret_int (by decide), by assumption⟩
theorem size_72 : SizeAt 72 := by
  intro w
  have HS := fun w1 h => sort_bw w w1 h 72 (by decide) (by decide)
  have HN := fun w1 h => name_bw w w1 h 72 (by decide) (by decide)
  have HB : BW w w := Below.refl _ _
  rw [show srt 72 = 12 by decide] at HS
  rw [show tx (nmO 72) = .string ⟨#[97, 109, 111, 109, 105, 110, 46, 100]⟩ from rfl] at HN
  have e1 : ∀ h, ((⟨#[97, 109, 111, 109, 105, 110, 46, 100]⟩ : ByteArray)[7]'h).toNat = 100 := fun _ => rfl
  have e2 : ∀ h, ((⟨#[97, 109, 111, 109, 105, 110, 46, 100]⟩ : ByteArray)[6]'h).toNat = 46 := fun _ => rfl
  have HV : Hid (siz 72 = siz 72) := rfl
  go_enter Tryd.func19, Tryd.ntmps19
  go_wp2_with (first
    | (go_at_call 18; refine (HS _ (by assumption)).mono ?_; rintro e w' ⟨rfl, hb⟩)
    | (go_at_call 23; refine (HN _ (by assumption)).mono ?_; rintro e w' ⟨rfl, hb⟩))
  go_ret
  exact ⟨ret_int (by decide), by assumption⟩
theorem size_73 : SizeAt 73 := by
  intro w
  have HS := fun w1 h => sort_bw w w1 h 73 (by decide) (by decide)
  have HN := fun w1 h => name_bw w w1 h 73 (by decide) (by decide)
  have HB : BW w w := Below.refl _ _
  rw [show srt 73 = 12 by decide] at HS
  rw [show tx (nmO 73) = .string ⟨#[97, 109, 111, 109, 97, 120, 46, 100]⟩ from rfl] at HN
  have e1 : ∀ h, ((⟨#[97, 109, 111, 109, 97, 120, 46, 100]⟩ : ByteArray)[7]'h).toNat = 100 := fun _ => rfl
  have e2 : ∀ h, ((⟨#[97, 109, 111, 109, 97, 120, 46, 100]⟩ : ByteArray)[6]'h).toNat = 46 := fun _ => rfl
  have HV : Hid (siz 73 = siz 73) := rfl
  go_enter Tryd.func19, Tryd.ntmps19
  go_wp2_with (first
    | (go_at_call 18; refine (HS _ (by assumption)).mono ?_; rintro e w' ⟨rfl, hb⟩)
    | (go_at_call 23; refine (HN _ (by assumption)).mono ?_; rintro e w' ⟨rfl, hb⟩))
  go_ret
  exact ⟨ret_int (by decide), by assumption⟩
theorem size_74 : SizeAt 74 := by
  intro w
  have HS := fun w1 h => sort_bw w w1 h 74 (by decide) (by decide)
  have HN := fun w1 h => name_bw w w1 h 74 (by decide) (by decide)
  have HB : BW w w := Below.refl _ _
  rw [show srt 74 = 12 by decide] at HS
  rw [show tx (nmO 74) = .string ⟨#[97, 109, 111, 109, 105, 110, 117, 46, 100]⟩ from rfl] at HN
  have e1 : ∀ h, ((⟨#[97, 109, 111, 109, 105, 110, 117, 46, 100]⟩ : ByteArray)[8]'h).toNat = 100 := fun _ => rfl
  have e2 : ∀ h, ((⟨#[97, 109, 111, 109, 105, 110, 117, 46, 100]⟩ : ByteArray)[7]'h).toNat = 46 := fun _ => rfl
  have HV : Hid (siz 74 = siz 74) := rfl
  go_enter Tryd.func19, Tryd.ntmps19
  go_wp2_with (first
    | (go_at_call 18; refine (HS _ (by assumption)).mono ?_; rintro e w' ⟨rfl, hb⟩)
    | (go_at_call 23; refine (HN _ (by assumption)).mono ?_; rintro e w' ⟨rfl, hb⟩))
  go_ret
  exact ⟨ret_int (by decide), by assumption⟩
theorem size_75 : SizeAt 75 := by
  intro w
  have HS := fun w1 h => sort_bw w w1 h 75 (by decide) (by decide)
  have HN := fun w1 h => name_bw w w1 h 75 (by decide) (by decide)
  have HB : BW w w := Below.refl _ _
  rw [show srt 75 = 12 by decide] at HS
  rw [show tx (nmO 75) = .string ⟨#[97, 109, 111, 109, 97, 120, 117, 46, 100]⟩ from rfl] at HN
  have e1 : ∀ h, ((⟨#[97, 109, 111, 109, 97, 120, 117, 46, 100]⟩ : ByteArray)[8]'h).toNat = 100 := fun _ => rfl
  have e2 : ∀ h, ((⟨#[97, 109, 111, 109, 97, 120, 117, 46, 100]⟩ : ByteArray)[7]'h).toNat = 46 := fun _ => rfl
  have HV : Hid (siz 75 = siz 75) := rfl
  go_enter Tryd.func19, Tryd.ntmps19
  go_wp2_with (first
    | (go_at_call 18; refine (HS _ (by assumption)).mono ?_; rintro e w' ⟨rfl, hb⟩)
    | (go_at_call 23; refine (HN _ (by assumption)).mono ?_; rintro e w' ⟨rfl, hb⟩))
  go_ret
  exact ⟨ret_int (by decide), by assumption⟩
theorem rsize_any (op : Int) (h0 : -9223372036854775808 ≤ op) (h1 : op ≤ 9223372036854775807) : SizeAt op := by
  by_cases h : op < 11 ∨ (22 ≤ op ∧ op ≤ 53) ∨ 75 < op
  · exact size_other h0 h1 h
  have hc : op = 11 ∨ op = 12 ∨ op = 13 ∨ op = 14 ∨ op = 15 ∨ op = 16 ∨ op = 17 ∨ op = 18 ∨ op = 19 ∨ op = 20 ∨ op = 21 ∨ op = 54 ∨ op = 55 ∨ op = 56 ∨ op = 57 ∨ op = 58 ∨ op = 59 ∨ op = 60 ∨ op = 61 ∨ op = 62 ∨ op = 63 ∨ op = 64 ∨ op = 65 ∨ op = 66 ∨ op = 67 ∨ op = 68 ∨ op = 69 ∨ op = 70 ∨ op = 71 ∨ op = 72 ∨ op = 73 ∨ op = 74 ∨ op = 75 := by omega
  rcases hc with rfl | rfl | rfl | rfl | rfl | rfl | rfl | rfl | rfl | rfl | rfl | rfl | rfl | rfl | rfl | rfl | rfl | rfl | rfl | rfl | rfl | rfl | rfl | rfl | rfl | rfl | rfl | rfl | rfl | rfl | rfl | rfl | rfl
  · exact size_11
  · exact size_12
  · exact size_13
  · exact size_14
  · exact size_15
  · exact size_16
  · exact size_17
  · exact size_18
  · exact size_19
  · exact size_20
  · exact size_21
  · exact size_54
  · exact size_55
  · exact size_56
  · exact size_57
  · exact size_58
  · exact size_59
  · exact size_60
  · exact size_61
  · exact size_62
  · exact size_63
  · exact size_64
  · exact size_65
  · exact size_66
  · exact size_67
  · exact size_68
  · exact size_69
  · exact size_70
  · exact size_71
  · exact size_72
  · exact size_73
  · exact size_74
  · exact size_75
end Go.Proofs.YtebpoladoimjgaaDoor
