/- Of stage 11. -/
import Derived.Test.YtmamblgpekafbaaGreatDoorSypa
import Derived.LoopTactic
import Derived.Deep.RegionHeld3
import Derived.Deep.DeepCutAuto
import Derived.Deep.LoopGhost
import Derived.IntWalk
set_option maxRecDepth 100000
namespace Go.Proofs.YtmamblgpekafbaaGreatDoor
open Go.RowKit
def zd7 (op : Int) : Prop := ∀ w : World, Calls Tryz.prog 18 #[.int .i64 op] w fun e w' => e = .returned (.int .i64 (siz op)) ∧ BW w w'
theorem zY7 {op : Int} (h0 : -9223372036854775808 ≤ op) (h1 : op ≤ 9223372036854775807) (h : op < 11 ∨ (22 ≤ op ∧ op ≤ 53) ∨ 75 < op) : zd7 op := by
  intro w
  have HS := fun w1 h => za7 w w1 h op h0 h1
  have HN := fun w1 h => za9 w w1 h op h0 h1
  have HB : BW w w := Below.refl _ _
  have HV : Hid (siz op = 0) := by
    show _ = _
    unfold siz
    split
    · have hall : ∀ k : Fin 75, (k.val < 10 ∨ (21 ≤ k.val ∧ k.val ≤ 52)) → szL.getD k.val 0 = 0 := by decide
      exact hall ⟨op.toNat - 1, by omega⟩ (by show op.toNat - 1 < 10 ∨ (21 ≤ op.toNat - 1 ∧ op.toNat - 1 ≤ 52); omega)
    · rfl
  have hk : srt op < 4 ∨ (¬ srt op < 4 ∧ 5 < srt op ∧ srt op < 10) := by
    rcases h with h | h | h
    · exact .inl (srt_low h)
    · have := srt_mid h.1 h.2; omega
    · have := srt_high h; omega
  clear h
  generalize srt op = k at *
  unfold tx at HN
  generalize bs (nmO op) = q at *
  rcases hk with hk | ⟨hk, hk2, hk3⟩
  · go_enter Tryz.func18, Tryz.ntmps18
    go_wp2_with (first
      | (go_at_call 23; refine (HS _ (by assumption)).mono ?_; rintro e w' ⟨rfl, hb⟩)
      | (go_at_call 41; refine (HN _ (by assumption)).mono ?_; rintro e w' ⟨rfl, hb⟩))
    go_ret
    exact ⟨za1 HV.out.symm, by assumption⟩
  · go_enter Tryz.func18, Tryz.ntmps18
    go_wp2_with (first
      | (go_at_call 23; refine (HS _ (by assumption)).mono ?_; rintro e w' ⟨rfl, hb⟩)
      | (go_at_call 41; refine (HN _ (by assumption)).mono ?_; rintro e w' ⟨rfl, hb⟩))
    go_ret
    exact ⟨za1 HV.out.symm, by assumption⟩
theorem size_11 : zd7 11 := by
  intro w
  have HS := fun w1 h => za7 w w1 h 11 (by decide) (by decide)
  have HN := fun w1 h => za9 w w1 h 11 (by decide) (by decide)
  have HB : BW w w := Below.refl _ _
  rw [show srt 11 = 4 by decide] at HS
  rw [show tx (nmO 11) = .string ⟨#[108, 98]⟩ from rfl] at HN
  have e1 : ∀ h, ((⟨#[108, 98]⟩ : ByteArray)[1]'h).toNat = 98 := fun _ => rfl
  have e2 : ∀ h, ((⟨#[108, 98]⟩ : ByteArray)[0]'h).toNat = 108 := fun _ => rfl
  have HV : Hid (siz 11 = siz 11) := rfl
  go_enter Tryz.func18, Tryz.ntmps18
  go_wp2_with (first
    | (go_at_call 23; refine (HS _ (by assumption)).mono ?_; rintro e w' ⟨rfl, hb⟩)
    | (go_at_call 41; refine (HN _ (by assumption)).mono ?_; rintro e w' ⟨rfl, hb⟩))
  go_ret
  exact ⟨za1 (by decide), by assumption⟩
theorem size_12 : zd7 12 := by
  intro w
  have HS := fun w1 h => za7 w w1 h 12 (by decide) (by decide)
  have HN := fun w1 h => za9 w w1 h 12 (by decide) (by decide)
  have HB : BW w w := Below.refl _ _
  rw [show srt 12 = 4 by decide] at HS
  rw [show tx (nmO 12) = .string ⟨#[108, 104]⟩ from rfl] at HN
  have e1 : ∀ h, ((⟨#[108, 104]⟩ : ByteArray)[1]'h).toNat = 104 := fun _ => rfl
  have e2 : ∀ h, ((⟨#[108, 104]⟩ : ByteArray)[0]'h).toNat = 108 := fun _ => rfl
  have HV : Hid (siz 12 = siz 12) := rfl
  go_enter Tryz.func18, Tryz.ntmps18
  go_wp2_with (first
    | (go_at_call 23; refine (HS _ (by assumption)).mono ?_; rintro e w' ⟨rfl, hb⟩)
    | (go_at_call 41; refine (HN _ (by assumption)).mono ?_; rintro e w' ⟨rfl, hb⟩))
  go_ret
  exact ⟨za1 (by decide), by assumption⟩
theorem size_13 : zd7 13 := by
  intro w
  have HS := fun w1 h => za7 w w1 h 13 (by decide) (by decide)
  have HN := fun w1 h => za9 w w1 h 13 (by decide) (by decide)
  have HB : BW w w := Below.refl _ _
  rw [show srt 13 = 4 by decide] at HS
  rw [show tx (nmO 13) = .string ⟨#[108, 119]⟩ from rfl] at HN
  have e1 : ∀ h, ((⟨#[108, 119]⟩ : ByteArray)[1]'h).toNat = 119 := fun _ => rfl
  have e2 : ∀ h, ((⟨#[108, 119]⟩ : ByteArray)[0]'h).toNat = 108 := fun _ => rfl
  have HV : Hid (siz 13 = siz 13) := rfl
  go_enter Tryz.func18, Tryz.ntmps18
  go_wp2_with (first
    | (go_at_call 23; refine (HS _ (by assumption)).mono ?_; rintro e w' ⟨rfl, hb⟩)
    | (go_at_call 41; refine (HN _ (by assumption)).mono ?_; rintro e w' ⟨rfl, hb⟩))
  go_ret
  exact ⟨za1 (by decide), by assumption⟩
theorem size_14 : zd7 14 := by
  intro w
  have HS := fun w1 h => za7 w w1 h 14 (by decide) (by decide)
  have HN := fun w1 h => za9 w w1 h 14 (by decide) (by decide)
  have HB : BW w w := Below.refl _ _
  rw [show srt 14 = 4 by decide] at HS
  rw [show tx (nmO 14) = .string ⟨#[108, 100]⟩ from rfl] at HN
  have e1 : ∀ h, ((⟨#[108, 100]⟩ : ByteArray)[1]'h).toNat = 100 := fun _ => rfl
  have e2 : ∀ h, ((⟨#[108, 100]⟩ : ByteArray)[0]'h).toNat = 108 := fun _ => rfl
  have HV : Hid (siz 14 = siz 14) := rfl
  go_enter Tryz.func18, Tryz.ntmps18
  go_wp2_with (first
    | (go_at_call 23; refine (HS _ (by assumption)).mono ?_; rintro e w' ⟨rfl, hb⟩)
    | (go_at_call 41; refine (HN _ (by assumption)).mono ?_; rintro e w' ⟨rfl, hb⟩))
  go_ret
  exact ⟨za1 (by decide), by assumption⟩
theorem size_15 : zd7 15 := by
  intro w
  have HS := fun w1 h => za7 w w1 h 15 (by decide) (by decide)
  have HN := fun w1 h => za9 w w1 h 15 (by decide) (by decide)
  have HB : BW w w := Below.refl _ _
  rw [show srt 15 = 4 by decide] at HS
  rw [show tx (nmO 15) = .string ⟨#[108, 98, 117]⟩ from rfl] at HN
  have e1 : ∀ h, ((⟨#[108, 98, 117]⟩ : ByteArray)[2]'h).toNat = 117 := fun _ => rfl
  have e2 : ∀ h, ((⟨#[108, 98, 117]⟩ : ByteArray)[1]'h).toNat = 98 := fun _ => rfl
  have HV : Hid (siz 15 = siz 15) := rfl
  go_enter Tryz.func18, Tryz.ntmps18
  go_wp2_with (first
    | (go_at_call 23; refine (HS _ (by assumption)).mono ?_; rintro e w' ⟨rfl, hb⟩)
    | (go_at_call 41; refine (HN _ (by assumption)).mono ?_; rintro e w' ⟨rfl, hb⟩))
  go_ret
  exact ⟨za1 (by decide), by assumption⟩
theorem size_16 : zd7 16 := by
  intro w
  have HS := fun w1 h => za7 w w1 h 16 (by decide) (by decide)
  have HN := fun w1 h => za9 w w1 h 16 (by decide) (by decide)
  have HB : BW w w := Below.refl _ _
  rw [show srt 16 = 4 by decide] at HS
  rw [show tx (nmO 16) = .string ⟨#[108, 104, 117]⟩ from rfl] at HN
  have e1 : ∀ h, ((⟨#[108, 104, 117]⟩ : ByteArray)[2]'h).toNat = 117 := fun _ => rfl
  have e2 : ∀ h, ((⟨#[108, 104, 117]⟩ : ByteArray)[1]'h).toNat = 104 := fun _ => rfl
  have HV : Hid (siz 16 = siz 16) := rfl
  go_enter Tryz.func18, Tryz.ntmps18
  go_wp2_with (first
    | (go_at_call 23; refine (HS _ (by assumption)).mono ?_; rintro e w' ⟨rfl, hb⟩)
    | (go_at_call 41; refine (HN _ (by assumption)).mono ?_; rintro e w' ⟨rfl, hb⟩))
  go_ret
  exact ⟨za1 (by decide), by assumption⟩
theorem size_17 : zd7 17 := by
  intro w
  have HS := fun w1 h => za7 w w1 h 17 (by decide) (by decide)
  have HN := fun w1 h => za9 w w1 h 17 (by decide) (by decide)
  have HB : BW w w := Below.refl _ _
  rw [show srt 17 = 4 by decide] at HS
  rw [show tx (nmO 17) = .string ⟨#[108, 119, 117]⟩ from rfl] at HN
  have e1 : ∀ h, ((⟨#[108, 119, 117]⟩ : ByteArray)[2]'h).toNat = 117 := fun _ => rfl
  have e2 : ∀ h, ((⟨#[108, 119, 117]⟩ : ByteArray)[1]'h).toNat = 119 := fun _ => rfl
  have HV : Hid (siz 17 = siz 17) := rfl
  go_enter Tryz.func18, Tryz.ntmps18
  go_wp2_with (first
    | (go_at_call 23; refine (HS _ (by assumption)).mono ?_; rintro e w' ⟨rfl, hb⟩)
    | (go_at_call 41; refine (HN _ (by assumption)).mono ?_; rintro e w' ⟨rfl, hb⟩))
  go_ret
  exact ⟨za1 (by decide), by assumption⟩
theorem size_18 : zd7 18 := by
  intro w
  have HS := fun w1 h => za7 w w1 h 18 (by decide) (by decide)
  have HN := fun w1 h => za9 w w1 h 18 (by decide) (by decide)
  have HB : BW w w := Below.refl _ _
  rw [show srt 18 = 5 by decide] at HS
  rw [show tx (nmO 18) = .string ⟨#[115, 98]⟩ from rfl] at HN
  have e1 : ∀ h, ((⟨#[115, 98]⟩ : ByteArray)[1]'h).toNat = 98 := fun _ => rfl
  have e2 : ∀ h, ((⟨#[115, 98]⟩ : ByteArray)[0]'h).toNat = 115 := fun _ => rfl
  have HV : Hid (siz 18 = siz 18) := rfl
  go_enter Tryz.func18, Tryz.ntmps18
  go_wp2_with (first
    | (go_at_call 23; refine (HS _ (by assumption)).mono ?_; rintro e w' ⟨rfl, hb⟩)
    | (go_at_call 41; refine (HN _ (by assumption)).mono ?_; rintro e w' ⟨rfl, hb⟩))
  go_ret
  exact ⟨za1 (by decide), by assumption⟩
theorem size_19 : zd7 19 := by
  intro w
  have HS := fun w1 h => za7 w w1 h 19 (by decide) (by decide)
  have HN := fun w1 h => za9 w w1 h 19 (by decide) (by decide)
  have HB : BW w w := Below.refl _ _
  rw [show srt 19 = 5 by decide] at HS
  rw [show tx (nmO 19) = .string ⟨#[115, 104]⟩ from rfl] at HN
  have e1 : ∀ h, ((⟨#[115, 104]⟩ : ByteArray)[1]'h).toNat = 104 := fun _ => rfl
  have e2 : ∀ h, ((⟨#[115, 104]⟩ : ByteArray)[0]'h).toNat = 115 := fun _ => rfl
  have HV : Hid (siz 19 = siz 19) := rfl
  go_enter Tryz.func18, Tryz.ntmps18
  go_wp2_with (first
    | (go_at_call 23; refine (HS _ (by assumption)).mono ?_; rintro e w' ⟨rfl, hb⟩)
    | (go_at_call 41; refine (HN _ (by assumption)).mono ?_; rintro e w' ⟨rfl, hb⟩))
  go_ret
  exact ⟨za1 (by decide), by assumption⟩
theorem size_20 : zd7 20 := by
  intro w
  have HS := fun w1 h => za7 w w1 h 20 (by decide) (by decide)
  have HN := fun w1 h => za9 w w1 h 20 (by decide) (by decide)
  have HB : BW w w := Below.refl _ _
  rw [show srt 20 = 5 by decide] at HS
  rw [show tx (nmO 20) = .string ⟨#[115, 119]⟩ from rfl] at HN
  have e1 : ∀ h, ((⟨#[115, 119]⟩ : ByteArray)[1]'h).toNat = 119 := fun _ => rfl
  have e2 : ∀ h, ((⟨#[115, 119]⟩ : ByteArray)[0]'h).toNat = 115 := fun _ => rfl
  have HV : Hid (siz 20 = siz 20) := rfl
  go_enter Tryz.func18, Tryz.ntmps18
  go_wp2_with (first
    | (go_at_call 23; refine (HS _ (by assumption)).mono ?_; rintro e w' ⟨rfl, hb⟩)
    | (go_at_call 41; refine (HN _ (by assumption)).mono ?_; rintro e w' ⟨rfl, hb⟩))
  go_ret
  exact ⟨za1 (by decide), by assumption⟩
theorem size_21 : zd7 21 := by
  intro w
  have HS := fun w1 h => za7 w w1 h 21 (by decide) (by decide)
  have HN := fun w1 h => za9 w w1 h 21 (by decide) (by decide)
  have HB : BW w w := Below.refl _ _
  rw [show srt 21 = 5 by decide] at HS
  rw [show tx (nmO 21) = .string ⟨#[115, 100]⟩ from rfl] at HN
  have e1 : ∀ h, ((⟨#[115, 100]⟩ : ByteArray)[1]'h).toNat = 100 := fun _ => rfl
  have e2 : ∀ h, ((⟨#[115, 100]⟩ : ByteArray)[0]'h).toNat = 115 := fun _ => rfl
  have HV : Hid (siz 21 = siz 21) := rfl
  go_enter Tryz.func18, Tryz.ntmps18
  go_wp2_with (first
    | (go_at_call 23; refine (HS _ (by assumption)).mono ?_; rintro e w' ⟨rfl, hb⟩)
    | (go_at_call 41; refine (HN _ (by assumption)).mono ?_; rintro e w' ⟨rfl, hb⟩))
  go_ret
  exact ⟨za1 (by decide), by assumption⟩
theorem size_54 : zd7 54 := by
  intro w
  have HS := fun w1 h => za7 w w1 h 54 (by decide) (by decide)
  have HN := fun w1 h => za9 w w1 h 54 (by decide) (by decide)
  have HB : BW w w := Below.refl _ _
  rw [show srt 54 = 10 by decide] at HS
  rw [show tx (nmO 54) = .string ⟨#[108, 114, 46, 119]⟩ from rfl] at HN
  have e1 : ∀ h, ((⟨#[108, 114, 46, 119]⟩ : ByteArray)[3]'h).toNat = 119 := fun _ => rfl
  have e2 : ∀ h, ((⟨#[108, 114, 46, 119]⟩ : ByteArray)[2]'h).toNat = 46 := fun _ => rfl
  have HV : Hid (siz 54 = siz 54) := rfl
  go_enter Tryz.func18, Tryz.ntmps18
  go_wp2_with (first
    | (go_at_call 23; refine (HS _ (by assumption)).mono ?_; rintro e w' ⟨rfl, hb⟩)
    | (go_at_call 41; refine (HN _ (by assumption)).mono ?_; rintro e w' ⟨rfl, hb⟩))
  go_ret
  exact ⟨za1 (by decide), by assumption⟩
theorem size_55 : zd7 55 := by
  intro w
  have HS := fun w1 h => za7 w w1 h 55 (by decide) (by decide)
  have HN := fun w1 h => za9 w w1 h 55 (by decide) (by decide)
  have HB : BW w w := Below.refl _ _
  rw [show srt 55 = 10 by decide] at HS
  rw [show tx (nmO 55) = .string ⟨#[108, 114, 46, 100]⟩ from rfl] at HN
  have e1 : ∀ h, ((⟨#[108, 114, 46, 100]⟩ : ByteArray)[3]'h).toNat = 100 := fun _ => rfl
  have e2 : ∀ h, ((⟨#[108, 114, 46, 100]⟩ : ByteArray)[2]'h).toNat = 46 := fun _ => rfl
  have HV : Hid (siz 55 = siz 55) := rfl
  go_enter Tryz.func18, Tryz.ntmps18
  go_wp2_with (first
    | (go_at_call 23; refine (HS _ (by assumption)).mono ?_; rintro e w' ⟨rfl, hb⟩)
    | (go_at_call 41; refine (HN _ (by assumption)).mono ?_; rintro e w' ⟨rfl, hb⟩))
  go_ret
  exact ⟨za1 (by decide), by assumption⟩
theorem size_56 : zd7 56 := by
  intro w
  have HS := fun w1 h => za7 w w1 h 56 (by decide) (by decide)
  have HN := fun w1 h => za9 w w1 h 56 (by decide) (by decide)
  have HB : BW w w := Below.refl _ _
  rw [show srt 56 = 11 by decide] at HS
  rw [show tx (nmO 56) = .string ⟨#[115, 99, 46, 119]⟩ from rfl] at HN
  have e1 : ∀ h, ((⟨#[115, 99, 46, 119]⟩ : ByteArray)[3]'h).toNat = 119 := fun _ => rfl
  have e2 : ∀ h, ((⟨#[115, 99, 46, 119]⟩ : ByteArray)[2]'h).toNat = 46 := fun _ => rfl
  have HV : Hid (siz 56 = siz 56) := rfl
  go_enter Tryz.func18, Tryz.ntmps18
  go_wp2_with (first
    | (go_at_call 23; refine (HS _ (by assumption)).mono ?_; rintro e w' ⟨rfl, hb⟩)
    | (go_at_call 41; refine (HN _ (by assumption)).mono ?_; rintro e w' ⟨rfl, hb⟩))
  go_ret
  exact ⟨za1 (by decide), by assumption⟩
theorem size_57 : zd7 57 := by
  intro w
  have HS := fun w1 h => za7 w w1 h 57 (by decide) (by decide)
  have HN := fun w1 h => za9 w w1 h 57 (by decide) (by decide)
  have HB : BW w w := Below.refl _ _
  rw [show srt 57 = 11 by decide] at HS
  rw [show tx (nmO 57) = .string ⟨#[115, 99, 46, 100]⟩ from rfl] at HN
  have e1 : ∀ h, ((⟨#[115, 99, 46, 100]⟩ : ByteArray)[3]'h).toNat = 100 := fun _ => rfl
  have e2 : ∀ h, ((⟨#[115, 99, 46, 100]⟩ : ByteArray)[2]'h).toNat = 46 := fun _ => rfl
  have HV : Hid (siz 57 = siz 57) := rfl
  go_enter Tryz.func18, Tryz.ntmps18
  go_wp2_with (first
    | (go_at_call 23; refine (HS _ (by assumption)).mono ?_; rintro e w' ⟨rfl, hb⟩)
    | (go_at_call 41; refine (HN _ (by assumption)).mono ?_; rintro e w' ⟨rfl, hb⟩))
  go_ret
  exact ⟨za1 (by decide), by assumption⟩
theorem size_58 : zd7 58 := by
  intro w
  have HS := fun w1 h => za7 w w1 h 58 (by decide) (by decide)
  have HN := fun w1 h => za9 w w1 h 58 (by decide) (by decide)
  have HB : BW w w := Below.refl _ _
  rw [show srt 58 = 12 by decide] at HS
  rw [show tx (nmO 58) = .string ⟨#[97, 109, 111, 115, 119, 97, 112, 46, 119]⟩ from rfl] at HN
  have e1 : ∀ h, ((⟨#[97, 109, 111, 115, 119, 97, 112, 46, 119]⟩ : ByteArray)[8]'h).toNat = 119 := fun _ => rfl
  have e2 : ∀ h, ((⟨#[97, 109, 111, 115, 119, 97, 112, 46, 119]⟩ : ByteArray)[7]'h).toNat = 46 := fun _ => rfl
  have HV : Hid (siz 58 = siz 58) := rfl
  go_enter Tryz.func18, Tryz.ntmps18
  go_wp2_with (first
    | (go_at_call 23; refine (HS _ (by assumption)).mono ?_; rintro e w' ⟨rfl, hb⟩)
    | (go_at_call 41; refine (HN _ (by assumption)).mono ?_; rintro e w' ⟨rfl, hb⟩))
  go_ret
  exact ⟨za1 (by decide), by assumption⟩
theorem size_59 : zd7 59 := by
  intro w
  have HS := fun w1 h => za7 w w1 h 59 (by decide) (by decide)
  have HN := fun w1 h => za9 w w1 h 59 (by decide) (by decide)
  have HB : BW w w := Below.refl _ _
  rw [show srt 59 = 12 by decide] at HS
  rw [show tx (nmO 59) = .string ⟨#[97, 109, 111, 97, 100, 100, 46, 119]⟩ from rfl] at HN
  have e1 : ∀ h, ((⟨#[97, 109, 111, 97, 100, 100, 46, 119]⟩ : ByteArray)[7]'h).toNat = 119 := fun _ => rfl
  have e2 : ∀ h, ((⟨#[97, 109, 111, 97, 100, 100, 46, 119]⟩ : ByteArray)[6]'h).toNat = 46 := fun _ => rfl
  have HV : Hid (siz 59 = siz 59) := rfl
  go_enter Tryz.func18, Tryz.ntmps18
  go_wp2_with (first
    | (go_at_call 23; refine (HS _ (by assumption)).mono ?_; rintro e w' ⟨rfl, hb⟩)
    | (go_at_call 41; refine (HN _ (by assumption)).mono ?_; rintro e w' ⟨rfl, hb⟩))
  go_ret
  exact ⟨za1 (by decide), by assumption⟩
theorem size_60 : zd7 60 := by
  intro w
  have HS := fun w1 h => za7 w w1 h 60 (by decide) (by decide)
  have HN := fun w1 h => za9 w w1 h 60 (by decide) (by decide)
  have HB : BW w w := Below.refl _ _
  rw [show srt 60 = 12 by decide] at HS
  rw [show tx (nmO 60) = .string ⟨#[97, 109, 111, 120, 111, 114, 46, 119]⟩ from rfl] at HN
  have e1 : ∀ h, ((⟨#[97, 109, 111, 120, 111, 114, 46, 119]⟩ : ByteArray)[7]'h).toNat = 119 := fun _ => rfl
  have e2 : ∀ h, ((⟨#[97, 109, 111, 120, 111, 114, 46, 119]⟩ : ByteArray)[6]'h).toNat = 46 := fun _ => rfl
  have HV : Hid (siz 60 = siz 60) := rfl
  go_enter Tryz.func18, Tryz.ntmps18
  go_wp2_with (first
    | (go_at_call 23; refine (HS _ (by assumption)).mono ?_; rintro e w' ⟨rfl, hb⟩)
    | (go_at_call 41; refine (HN _ (by assumption)).mono ?_; rintro e w' ⟨rfl, hb⟩))
  go_ret
  exact ⟨za1 (by decide), by assumption⟩
theorem size_61 : zd7 61 := by
  intro w
  have HS := fun w1 h => za7 w w1 h 61 (by decide) (by decide)
  have HN := fun w1 h => za9 w w1 h 61 (by decide) (by decide)
  have HB : BW w w := Below.refl _ _
  rw [show srt 61 = 12 by decide] at HS
  rw [show tx (nmO 61) = .string ⟨#[97, 109, 111, 97, 110, 100, 46, 119]⟩ from rfl] at HN
  have e1 : ∀ h, ((⟨#[97, 109, 111, 97, 110, 100, 46, 119]⟩ : ByteArray)[7]'h).toNat = 119 := fun _ => rfl
  have e2 : ∀ h, ((⟨#[97, 109, 111, 97, 110, 100, 46, 119]⟩ : ByteArray)[6]'h).toNat = 46 := fun _ => rfl
  have HV : Hid (siz 61 = siz 61) := rfl
  go_enter Tryz.func18, Tryz.ntmps18
  go_wp2_with (first
    | (go_at_call 23; refine (HS _ (by assumption)).mono ?_; rintro e w' ⟨rfl, hb⟩)
    | (go_at_call 41; refine (HN _ (by assumption)).mono ?_; rintro e w' ⟨rfl, hb⟩))
  go_ret
  exact ⟨za1 (by decide), by assumption⟩
theorem size_62 : zd7 62 := by
  intro w
  have HS := fun w1 h => za7 w w1 h 62 (by decide) (by decide)
  have HN := fun w1 h => za9 w w1 h 62 (by decide) (by decide)
  have HB : BW w w := Below.refl _ _
  rw [show srt 62 = 12 by decide] at HS
  rw [show tx (nmO 62) = .string ⟨#[97, 109, 111, 111, 114, 46, 119]⟩ from rfl] at HN
  have e1 : ∀ h, ((⟨#[97, 109, 111, 111, 114, 46, 119]⟩ : ByteArray)[6]'h).toNat = 119 := fun _ => rfl
  have e2 : ∀ h, ((⟨#[97, 109, 111, 111, 114, 46, 119]⟩ : ByteArray)[5]'h).toNat = 46 := fun _ => rfl
  have HV : Hid (siz 62 = siz 62) := rfl
  go_enter Tryz.func18, Tryz.ntmps18
  go_wp2_with (first
    | (go_at_call 23; refine (HS _ (by assumption)).mono ?_; rintro e w' ⟨rfl, hb⟩)
    | (go_at_call 41; refine (HN _ (by assumption)).mono ?_; rintro e w' ⟨rfl, hb⟩))
  go_ret
  exact ⟨za1 (by decide), by assumption⟩
theorem size_63 : zd7 63 := by
  intro w
  have HS := fun w1 h => za7 w w1 h 63 (by decide) (by decide)
  have HN := fun w1 h => za9 w w1 h 63 (by decide) (by decide)
  have HB : BW w w := Below.refl _ _
  rw [show srt 63 = 12 by decide] at HS
  rw [show tx (nmO 63) = .string ⟨#[97, 109, 111, 109, 105, 110, 46, 119]⟩ from rfl] at HN
  have e1 : ∀ h, ((⟨#[97, 109, 111, 109, 105, 110, 46, 119]⟩ : ByteArray)[7]'h).toNat = 119 := fun _ => rfl
  have e2 : ∀ h, ((⟨#[97, 109, 111, 109, 105, 110, 46, 119]⟩ : ByteArray)[6]'h).toNat = 46 := fun _ => rfl
  have HV : Hid (siz 63 = siz 63) := rfl
  go_enter Tryz.func18, Tryz.ntmps18
  go_wp2_with (first
    | (go_at_call 23; refine (HS _ (by assumption)).mono ?_; rintro e w' ⟨rfl, hb⟩)
    | (go_at_call 41; refine (HN _ (by assumption)).mono ?_; rintro e w' ⟨rfl, hb⟩))
  go_ret
  exact ⟨za1 (by decide), by assumption⟩
theorem size_64 : zd7 64 := by
  intro w
  have HS := fun w1 h => za7 w w1 h 64 (by decide) (by decide)
  have HN := fun w1 h => za9 w w1 h 64 (by decide) (by decide)
  have HB : BW w w := Below.refl _ _
  rw [show srt 64 = 12 by decide] at HS
  rw [show tx (nmO 64) = .string ⟨#[97, 109, 111, 109, 97, 120, 46, 119]⟩ from rfl] at HN
  have e1 : ∀ h, ((⟨#[97, 109, 111, 109, 97, 120, 46, 119]⟩ : ByteArray)[7]'h).toNat = 119 := fun _ => rfl
  have e2 : ∀ h, ((⟨#[97, 109, 111, 109, 97, 120, 46, 119]⟩ : ByteArray)[6]'h).toNat = 46 := fun _ => rfl
  have HV : Hid (siz 64 = siz 64) := rfl
  go_enter Tryz.func18, Tryz.ntmps18
  go_wp2_with (first
    | (go_at_call 23; refine (HS _ (by assumption)).mono ?_; rintro e w' ⟨rfl, hb⟩)
    | (go_at_call 41; refine (HN _ (by assumption)).mono ?_; rintro e w' ⟨rfl, hb⟩))
  go_ret
  exact ⟨za1 (by decide), by assumption⟩
theorem size_65 : zd7 65 := by
  intro w
  have HS := fun w1 h => za7 w w1 h 65 (by decide) (by decide)
  have HN := fun w1 h => za9 w w1 h 65 (by decide) (by decide)
  have HB : BW w w := Below.refl _ _
  rw [show srt 65 = 12 by decide] at HS
  rw [show tx (nmO 65) = .string ⟨#[97, 109, 111, 109, 105, 110, 117, 46, 119]⟩ from rfl] at HN
  have e1 : ∀ h, ((⟨#[97, 109, 111, 109, 105, 110, 117, 46, 119]⟩ : ByteArray)[8]'h).toNat = 119 := fun _ => rfl
  have e2 : ∀ h, ((⟨#[97, 109, 111, 109, 105, 110, 117, 46, 119]⟩ : ByteArray)[7]'h).toNat = 46 := fun _ => rfl
  have HV : Hid (siz 65 = siz 65) := rfl
  go_enter Tryz.func18, Tryz.ntmps18
  go_wp2_with (first
    | (go_at_call 23; refine (HS _ (by assumption)).mono ?_; rintro e w' ⟨rfl, hb⟩)
    | (go_at_call 41; refine (HN _ (by assumption)).mono ?_; rintro e w' ⟨rfl, hb⟩))
  go_ret
  exact ⟨za1 (by decide), by assumption⟩
theorem size_66 : zd7 66 := by
  intro w
  have HS := fun w1 h => za7 w w1 h 66 (by decide) (by decide)
  have HN := fun w1 h => za9 w w1 h 66 (by decide) (by decide)
  have HB : BW w w := Below.refl _ _
  rw [show srt 66 = 12 by decide] at HS
  rw [show tx (nmO 66) = .string ⟨#[97, 109, 111, 109, 97, 120, 117, 46, 119]⟩ from rfl] at HN
  have e1 : ∀ h, ((⟨#[97, 109, 111, 109, 97, 120, 117, 46, 119]⟩ : ByteArray)[8]'h).toNat = 119 := fun _ => rfl
  have e2 : ∀ h, ((⟨#[97, 109, 111, 109, 97, 120, 117, 46, 119]⟩ : ByteArray)[7]'h).toNat = 46 := fun _ => rfl
  have HV : Hid (siz 66 = siz 66) := rfl
  go_enter Tryz.func18, Tryz.ntmps18
  go_wp2_with (first
    | (go_at_call 23; refine (HS _ (by assumption)).mono ?_; rintro e w' ⟨rfl, hb⟩)
    | (go_at_call 41; refine (HN _ (by assumption)).mono ?_; rintro e w' ⟨rfl, hb⟩))
  go_ret
  exact ⟨za1 (by decide), by assumption⟩
theorem size_67 : zd7 67 := by
  intro w
  have HS := fun w1 h => za7 w w1 h 67 (by decide) (by decide)
  have HN := fun w1 h => za9 w w1 h 67 (by decide) (by decide)
  have HB : BW w w := Below.refl _ _
  rw [show srt 67 = 12 by decide] at HS
  rw [show tx (nmO 67) = .string ⟨#[97, 109, 111, 115, 119, 97, 112, 46, 100]⟩ from rfl] at HN
  have e1 : ∀ h, ((⟨#[97, 109, 111, 115, 119, 97, 112, 46, 100]⟩ : ByteArray)[8]'h).toNat = 100 := fun _ => rfl
  have e2 : ∀ h, ((⟨#[97, 109, 111, 115, 119, 97, 112, 46, 100]⟩ : ByteArray)[7]'h).toNat = 46 := fun _ => rfl
  have HV : Hid (siz 67 = siz 67) := rfl
  go_enter Tryz.func18, Tryz.ntmps18
  go_wp2_with (first
    | (go_at_call 23; refine (HS _ (by assumption)).mono ?_; rintro e w' ⟨rfl, hb⟩)
    | (go_at_call 41; refine (HN _ (by assumption)).mono ?_; rintro e w' ⟨rfl, hb⟩))
  go_ret
  exact ⟨za1 (by decide), by assumption⟩
theorem size_68 : zd7 68 := by
  intro w
  have HS := fun w1 h => za7 w w1 h 68 (by decide) (by decide)
  have HN := fun w1 h => za9 w w1 h 68 (by decide) (by decide)
  have HB : BW w w := Below.refl _ _
  rw [show srt 68 = 12 by decide] at HS
  rw [show tx (nmO 68) = .string ⟨#[97, 109, 111, 97, 100, 100, 46, 100]⟩ from rfl] at HN
  have e1 : ∀ h, ((⟨#[97, 109, 111, 97, 100, 100, 46, 100]⟩ : ByteArray)[7]'h).toNat = 100 := fun _ => rfl
  have e2 : ∀ h, ((⟨#[97, 109, 111, 97, 100, 100, 46, 100]⟩ : ByteArray)[6]'h).toNat = 46 := fun _ => rfl
  have HV : Hid (siz 68 = siz 68) := rfl
  go_enter Tryz.func18, Tryz.ntmps18
  go_wp2_with (first
    | (go_at_call 23; refine (HS _ (by assumption)).mono ?_; rintro e w' ⟨rfl, hb⟩)
    | (go_at_call 41; refine (HN _ (by assumption)).mono ?_; rintro e w' ⟨rfl, hb⟩))
  go_ret
  exact ⟨za1 (by decide), by assumption⟩
theorem size_69 : zd7 69 := by
  intro w
  have HS := fun w1 h => za7 w w1 h 69 (by decide) (by decide)
  have HN := fun w1 h => za9 w w1 h 69 (by decide) (by decide)
  have HB : BW w w := Below.refl _ _
  rw [show srt 69 = 12 by decide] at HS
  rw [show tx (nmO 69) = .string ⟨#[97, 109, 111, 120, 111, 114, 46, 100]⟩ from rfl] at HN
  have e1 : ∀ h, ((⟨#[97, 109, 111, 120, 111, 114, 46, 100]⟩ : ByteArray)[7]'h).toNat = 100 := fun _ => rfl
  have e2 : ∀ h, ((⟨#[97, 109, 111, 120, 111, 114, 46, 100]⟩ : ByteArray)[6]'h).toNat = 46 := fun _ => rfl
  have HV : Hid (siz 69 = siz 69) := rfl
  go_enter Tryz.func18, Tryz.ntmps18
  go_wp2_with (first
    | (go_at_call 23; refine (HS _ (by assumption)).mono ?_; rintro e w' ⟨rfl, hb⟩)
    | (go_at_call 41; refine (HN _ (by assumption)).mono ?_; rintro e w' ⟨rfl, hb⟩))
  go_ret
  exact ⟨za1 (by decide), by assumption⟩
theorem size_70 : zd7 70 := by
  intro w
  have HS := fun w1 h => za7 w w1 h 70 (by decide) (by decide)
  have HN := fun w1 h => za9 w w1 h 70 (by decide) (by decide)
  have HB : BW w w := Below.refl _ _
  rw [show srt 70 = 12 by decide] at HS
  rw [show tx (nmO 70) = .string ⟨#[97, 109, 111, 97, 110, 100, 46, 100]⟩ from rfl] at HN
  have e1 : ∀ h, ((⟨#[97, 109, 111, 97, 110, 100, 46, 100]⟩ : ByteArray)[7]'h).toNat = 100 := fun _ => rfl
  have e2 : ∀ h, ((⟨#[97, 109, 111, 97, 110, 100, 46, 100]⟩ : ByteArray)[6]'h).toNat = 46 := fun _ => rfl
  have HV : Hid (siz 70 = siz 70) := rfl
  go_enter Tryz.func18, Tryz.ntmps18
  go_wp2_with (first
    | (go_at_call 23; refine (HS _ (by assumption)).mono ?_; rintro e w' ⟨rfl, hb⟩)
    | (go_at_call 41; refine (HN _ (by assumption)).mono ?_; rintro e w' ⟨rfl, hb⟩))
  go_ret
  exact ⟨za1 (by decide), by assumption⟩
theorem size_71 : zd7 71 := by
  intro w
  have HS := fun w1 h => za7 w w1 h 71 (by decide) (by decide)
  have HN := fun w1 h => za9 w w1 h 71 (by decide) (by decide)
  have HB : BW w w := Below.refl _ _
  rw [show srt 71 = 12 by decide] at HS
  rw [show tx (nmO 71) = .string ⟨#[97, 109, 111, 111, 114, 46, 100]⟩ from rfl] at HN
  have e1 : ∀ h, ((⟨#[97, 109, 111, 111, 114, 46, 100]⟩ : ByteArray)[6]'h).toNat = 100 := fun _ => rfl
  have e2 : ∀ h, ((⟨#[97, 109, 111, 111, 114, 46, 100]⟩ : ByteArray)[5]'h).toNat = 46 := fun _ => rfl
  have HV : Hid (siz 71 = siz 71) := rfl
  go_enter Tryz.func18, Tryz.ntmps18
  go_wp2_with (first
    | (go_at_call 23; refine (HS _ (by assumption)).mono ?_; rintro e w' ⟨rfl, hb⟩)
    | (go_at_call 41; refine (HN _ (by assumption)).mono ?_; rintro e w' ⟨rfl, hb⟩))
  go_ret
  exact ⟨za1 (by decide), by assumption⟩
theorem size_72 : zd7 72 := by
  intro w
  have HS := fun w1 h => za7 w w1 h 72 (by decide) (by decide)
  have HN := fun w1 h => za9 w w1 h 72 (by decide) (by decide)
  have HB : BW w w := Below.refl _ _
  rw [show srt 72 = 12 by decide] at HS
  rw [show tx (nmO 72) = .string ⟨#[97, 109, 111, 109, 105, 110, 46, 100]⟩ from rfl] at HN
  have e1 : ∀ h, ((⟨#[97, 109, 111, 109, 105, 110, 46, 100]⟩ : ByteArray)[7]'h).toNat = 100 := fun _ => rfl
  have e2 : ∀ h, ((⟨#[97, 109, 111, 109, 105, 110, 46, 100]⟩ : ByteArray)[6]'h).toNat = 46 := fun _ => rfl
  have HV : Hid (siz 72 = siz 72) := rfl
  go_enter Tryz.func18, Tryz.ntmps18
  go_wp2_with (first
    | (go_at_call 23; refine (HS _ (by assumption)).mono ?_; rintro e w' ⟨rfl, hb⟩)
    | (go_at_call 41; refine (HN _ (by assumption)).mono ?_; rintro e w' ⟨rfl, hb⟩))
  go_ret
  exact ⟨za1 (by decide), by assumption⟩
theorem size_73 : zd7 73 := by
  intro w
  have HS := fun w1 h => za7 w w1 h 73 (by decide) (by decide)
  have HN := fun w1 h => za9 w w1 h 73 (by decide) (by decide)
  have HB : BW w w := Below.refl _ _
  rw [show srt 73 = 12 by decide] at HS
  rw [show tx (nmO 73) = .string ⟨#[97, 109, 111, 109, 97, 120, 46, 100]⟩ from rfl] at HN
  have e1 : ∀ h, ((⟨#[97, 109, 111, 109, 97, 120, 46, 100]⟩ : ByteArray)[7]'h).toNat = 100 := fun _ => rfl
  have e2 : ∀ h, ((⟨#[97, 109, 111, 109, 97, 120, 46, 100]⟩ : ByteArray)[6]'h).toNat = 46 := fun _ => rfl
  have HV : Hid (siz 73 = siz 73) := rfl
  go_enter Tryz.func18, Tryz.ntmps18
  go_wp2_with (first
    | (go_at_call 23; refine (HS _ (by assumption)).mono ?_; rintro e w' ⟨rfl, hb⟩)
    | (go_at_call 41; refine (HN _ (by assumption)).mono ?_; rintro e w' ⟨rfl, hb⟩))
  go_ret
  exact ⟨za1 (by decide), by assumption⟩
theorem size_74 : zd7 74 := by
  intro w
  have HS := fun w1 h => za7 w w1 h 74 (by decide) (by decide)
  have HN := fun w1 h => za9 w w1 h 74 (by decide) (by decide)
  have HB : BW w w := Below.refl _ _
  rw [show srt 74 = 12 by decide] at HS
  rw [show tx (nmO 74) = .string ⟨#[97, 109, 111, 109, 105, 110, 117, 46, 100]⟩ from rfl] at HN
  have e1 : ∀ h, ((⟨#[97, 109, 111, 109, 105, 110, 117, 46, 100]⟩ : ByteArray)[8]'h).toNat = 100 := fun _ => rfl
  have e2 : ∀ h, ((⟨#[97, 109, 111, 109, 105, 110, 117, 46, 100]⟩ : ByteArray)[7]'h).toNat = 46 := fun _ => rfl
  have HV : Hid (siz 74 = siz 74) := rfl
  go_enter Tryz.func18, Tryz.ntmps18
  go_wp2_with (first
    | (go_at_call 23; refine (HS _ (by assumption)).mono ?_; rintro e w' ⟨rfl, hb⟩)
    | (go_at_call 41; refine (HN _ (by assumption)).mono ?_; rintro e w' ⟨rfl, hb⟩))
  go_ret
  exact ⟨za1 (by decide), by assumption⟩
theorem size_75 : zd7 75 := by
  intro w
  have HS := fun w1 h => za7 w w1 h 75 (by decide) (by decide)
  have HN := fun w1 h => za9 w w1 h 75 (by decide) (by decide)
  have HB : BW w w := Below.refl _ _
  rw [show srt 75 = 12 by decide] at HS
  rw [show tx (nmO 75) = .string ⟨#[97, 109, 111, 109, 97, 120, 117, 46, 100]⟩ from rfl] at HN
  have e1 : ∀ h, ((⟨#[97, 109, 111, 109, 97, 120, 117, 46, 100]⟩ : ByteArray)[8]'h).toNat = 100 := fun _ => rfl
  have e2 : ∀ h, ((⟨#[97, 109, 111, 109, 97, 120, 117, 46, 100]⟩ : ByteArray)[7]'h).toNat = 46 := fun _ => rfl
  have HV : Hid (siz 75 = siz 75) := rfl
  go_enter Tryz.func18, Tryz.ntmps18
  go_wp2_with (first
    | (go_at_call 23; refine (HS _ (by assumption)).mono ?_; rintro e w' ⟨rfl, hb⟩)
    | (go_at_call 41; refine (HN _ (by assumption)).mono ?_; rintro e w' ⟨rfl, hb⟩))
  go_ret
  exact ⟨za1 (by decide), by assumption⟩
theorem zg9 (op : Int) (h0 : -9223372036854775808 ≤ op) (h1 : op ≤ 9223372036854775807) : zd7 op := by
  by_cases h : op < 11 ∨ (22 ≤ op ∧ op ≤ 53) ∨ 75 < op
  · exact zY7 h0 h1 h
  have hc : op = 11 ∨ op = 12 ∨ op = 13 ∨ op = 14 ∨ op = 15 ∨ op = 16 ∨ op = 17 ∨ op = 18 ∨ op = 19 ∨ op = 20 ∨ op = 21 ∨ op = 54 ∨ op = 55 ∨ op = 56 ∨ op = 57 ∨ op = 58 ∨ op = 59 ∨ op = 60 ∨ op = 61 ∨ op = 62 ∨ op = 63 ∨ op = 64 ∨ op = 65 ∨ op = 66 ∨ op = 67 ∨ op = 68 ∨ op = 69 ∨ op = 70 ∨ op = 71 ∨ op = 72 ∨ op = 73 ∨ op = 74 ∨ op = 75 := by omega
  rcases hc with rfl | rfl | rfl | rfl | rfl | rfl | rfl | rfl | rfl | rfl | rfl | rfl | rfl | rfl | rfl | rfl | rfl | rfl | rfl | rfl | rfl | rfl | rfl | rfl | rfl | rfl | rfl | rfl | rfl | rfl | rfl | rfl | rfl
  · exact size_11
  · exact size_12
  · exact size_13
  · exact size_14
  · exact size_15
  · exact size_16
  · exact size_17
  · exact size_18
  · exact size_19
  · exact size_20
  · exact size_21
  · exact size_54
  · exact size_55
  · exact size_56
  · exact size_57
  · exact size_58
  · exact size_59
  · exact size_60
  · exact size_61
  · exact size_62
  · exact size_63
  · exact size_64
  · exact size_65
  · exact size_66
  · exact size_67
  · exact size_68
  · exact size_69
  · exact size_70
  · exact size_71
  · exact size_72
  · exact size_73
  · exact size_74
  · exact size_75
end Go.Proofs.YtmamblgpekafbaaGreatDoor
namespace Go.Proofs.YtmamblgpekafbaaGreatDoor
open Go.RowKit
def tgt (i : Ins) : Int := if wrB i.op then regV i.rd else 0
theorem BW.past {w X w1 : World} (hB : Below w.heap.size w X) (h : BW X w1) : Below w.heap.size w w1 := hB.trans (Below.mono h hB.size)
theorem zP2 (i : Ins) (h0 : -9223372036854775808 ≤ i.op) (h1 : i.op ≤ 9223372036854775807) (w : World) :
    Calls Tryz.prog 45 #[insV i] w fun e w' => e = .returned (.int .i64 (tgt i)) ∧ Below w.heap.size w w' := by
  have HI := Lib.hid (InsAt.new i w 39)
  have HB : Hid (Below w.heap.size w (w.alloc (.cells (za0 i) 39))) := (Below.refl _ _).alloc (Nat.le_refl _) _
  have HW := fun w => zy5 i.op h0 h1 w
  have HR := fun w => zE4 i.rd w
  unfold insV
  unfold za0 at HI HB
  cases hw : wrB i.op
  · have HV : Hid (tgt i = 0) := by show _ = _; unfold tgt; rw [hw]; rfl
    rw [hw] at HW
    clear hw
    obtain ⟨op, rd, rs1, rs2, imm, aq, rl, pred, succ⟩ := i
    simp only at h0 h1 HW HR ⊢
    go_enter Tryz.func45, Tryz.ntmps45
    go_wp2_with (first
      | (go_at_call 65; refine (HW _).mono ?_; rintro e w1 ⟨rfl, hb⟩))
    go_ret
    exact ⟨za1 HV.out.symm, BW.past HB.out hb⟩
  · have HV : Hid (tgt i = regV i.rd) := by show _ = _; unfold tgt; rw [hw]; rfl
    rw [hw] at HW
    clear hw
    obtain ⟨op, rd, rs1, rs2, imm, aq, rl, pred, succ⟩ := i
    simp only at h0 h1 HW HR HV ⊢
    go_enter Tryz.func45, Tryz.ntmps45
    go_wp2_with (first
      | (go_at_call 65; refine (HW _).mono ?_; rintro e w1 ⟨rfl, hb⟩; have hc := (HI.out.on hb).cells.2.1; simp only at hc; have HBB := Lib.hid hb; clear hb)
      | (go_at_call 75; refine (HR _).mono ?_; rintro e w1 ⟨rfl, rfl⟩))
    go_ret
    exact ⟨za1 HV.out.symm, BW.past HB.out HBB.out⟩
def srcs (i : Ins) : List Int := (if firB i.op && decide (1 ≤ i.rs1 ∧ i.rs1 ≤ 31) then [i.rs1] else []) ++ (if secB i.op && decide (1 ≤ i.rs2 ∧ i.rs2 ≤ 31) then [i.rs2] else [])
def zy7 (l : List Int) : List Value := l.map (Value.int .i64)
def RetN (w : World) (l : List Int) (e : Ending) (w' : World) : Prop := ∃ A cap, e = .returned (.slice A l.length cap) ∧ Rd w' w'.heap.size A (zy7 l) ∧ Below w.heap.size w w' ∧ ∀ a, A = some a → w.heap.size ≤ a.block
theorem RetN.of_own {w w' : World} {l : List Int} {e : TypeId} {n : Nat} {v : Value} (h : w'.ownsRow w.heap.size e 1 v n (zy7 l)) (hb : Below w.heap.size w w') : RetN w l (.returned v) w' := by
  obtain ⟨A, c, rfl, hr⟩ := zB7 h
  have hn : n = l.length := by have := h.1; unfold zy7 at this; rw [List.length_map] at this; omega
  subst hn
  exact ⟨A, c, rfl, hr, hb, fun a ha => (h.lt a.block (by subst ha; rfl)).1⟩
theorem info_int : (Tryz.prog.info? 3).map (fun i => (i.zero, i.size, i.bytes)) = some (some (.int .i64 0), 1, 8) := by kernel_rfl
theorem zi4 (w : World) (v : Value) (t : TypeId) : ∀ j u, [v][j]? = some u → (w.alloc (.cells #[v] t)).cell? ((⟨w.heap.size, 0, none⟩ : Addr).add j) = some u := by
  intro j u h
  cases j with
  | zero => simp at h; subst h; simp [Addr.add]
  | succ j => simp at h
theorem zu0 {w w' : World} {o : Obj} (h : (w.alloc o).grownBy w' none) : Below w.heap.size w w' :=
  ((Below.refl _ _).alloc (Nat.le_refl _) _).grown h (by simp) (fun _ h => by cases h)
end Go.Proofs.YtmamblgpekafbaaGreatDoor
namespace Go.Proofs.YtmamblgpekafbaaGreatDoor
open Go.RowKit
def bynm (l : List UInt8) : Int := if l ∈ nmL then (nmL.idxOf l : Int) + 1 else 0
def ldsB (op : Int) : Bool := decide (srt op = 4 ∨ srt op = 10 ∨ srt op = 12)
def stsB (op : Int) : Bool := decide (srt op = 5 ∨ srt op = 11 ∨ srt op = 12)
section
end
end Go.Proofs.YtmamblgpekafbaaGreatDoor
namespace Go.Proofs.YtmamblgpekafbaaGreatDoor
open Go.RowKit
end Go.Proofs.YtmamblgpekafbaaGreatDoor
namespace Go.Proofs.YtmamblgpekafbaaGreatDoor
open Go.RowKit
def nmA (k : Nat) : List UInt8 := nmL.getD k []
theorem idx_nm : ∀ k : Fin 75, nmL.idxOf (nmA k.val) = k.val := by decide +kernel
theorem bynm_idx (l : List UInt8) : bynm l = if nmL.idxOf l < 75 then (nmL.idxOf l : Int) + 1 else 0 := by
  unfold bynm
  have : l ∈ nmL ↔ nmL.idxOf l < 75 := (List.idxOf_lt_length_iff (l := nmL) (a := l)).symm
  by_cases h : l ∈ nmL
  · rw [if_pos h, if_pos (this.1 h)]
  · rw [if_neg h, if_neg (fun g => h (this.2 g))]
theorem bynm_at {k : Nat} (h : k < 75) : bynm (nmA k) = (k : Int) + 1 := by
  rw [bynm_idx, idx_nm ⟨k, h⟩, if_pos h]
end Go.Proofs.YtmamblgpekafbaaGreatDoor
namespace Go.Proofs.YtmamblgpekafbaaGreatDoor
open Go.RowKit
def lsL : List Int := [0, 2, 4, 10, 17, 21, 34, 49, 51, 53, 55, 57, 75]
def lsV : Array Value := (lsL.map (Value.int .i64)).toArray
def n0L : List (List UInt8) := [] :: nmL
def n0V : Array Value := (n0L.map tx).toArray
def TabL (w : World) : Prop := ∃ t fr, w.heap[0]? = some (.cells lsV t fr)
def TabN (w : World) : Prop := ∃ t fr, w.heap[8]? = some (.cells n0V t fr)
theorem TabL.below {W w : World} (h : TabL W) (hb : Below W.heap.size W w) : TabL w := by
  obtain ⟨t, fr, h1⟩ := h
  have z1 := (Array.getElem?_eq_some_iff.1 h1).1
  exact ⟨t, fr, by rw [hb.block _ z1]; exact h1⟩
theorem TabN.below {W w : World} (h : TabN W) (hb : Below W.heap.size W w) : TabN w := by
  obtain ⟨t, fr, h1⟩ := h
  have z1 := (Array.getElem?_eq_some_iff.1 h1).1
  exact ⟨t, fr, by rw [hb.block _ z1]; exact h1⟩
theorem lsV_at {k : Nat} (h : k < 13) (w : World) : (Instr.index 74 (.agg lsV) (.int .i64 k)).run Tryz.prog w = .ok (.int .i64 (lsL.getD k 0)) w :=
  zq6 Tryz.underlying74 Tryz.underlying3 rfl (by kernel_rfl) h (by
    unfold lsV
    rw [List.getElem?_toArray, List.getElem?_map, List.getD_eq_getElem?_getD, List.getElem?_eq_getElem (by simpa [lsL] using h)]
    rfl) w
theorem ls_range {k : Nat} (h : k < 13) : 0 ≤ lsL.getD k 0 ∧ lsL.getD k 0 ≤ 75 := by
  have h13 : k = 0 ∨ k = 1 ∨ k = 2 ∨ k = 3 ∨ k = 4 ∨ k = 5 ∨ k = 6 ∨ k = 7 ∨ k = 8 ∨ k = 9 ∨ k = 10 ∨ k = 11 ∨ k = 12 := by omega
  rcases h13 with rfl | rfl | rfl | rfl | rfl | rfl | rfl | rfl | rfl | rfl | rfl | rfl | rfl <;> decide
theorem ls_sort {k : Nat} (h : k < 13) {op : Int} (h1 : k = 0 ∨ lsL.getD (k - 1) 0 < op) (h2 : op ≤ lsL.getD k 0) : srt op = k := by
  have hs := zd0 op
  have h13 : k = 0 ∨ k = 1 ∨ k = 2 ∨ k = 3 ∨ k = 4 ∨ k = 5 ∨ k = 6 ∨ k = 7 ∨ k = 8 ∨ k = 9 ∨ k = 10 ∨ k = 11 ∨ k = 12 := by omega
  rcases h13 with rfl | rfl | rfl | rfl | rfl | rfl | rfl | rfl | rfl | rfl | rfl | rfl | rfl <;> simp [lsL] at h1 h2 <;> omega
theorem ls_end {op : Int} (h : lsL.getD 12 0 < op) : srt op = 0 := by
  have hs := zd0 op
  simp [lsL] at h
  omega
set_option maxRecDepth 100000 in
theorem zh2 (op : Int) (_ : I64 op) (w : World) (hT : TabL w) :
    Calls Tryz.prog 15 #[.int .i64 op] w fun e w' => e = .returned (.int .i64 (srt op)) ∧ w = w' := by
  obtain ⟨t, fr, hg⟩ := hT
  have HG := Lib.hid hg
  clear hg
  go_enter Tryz.func15, Tryz.ntmps15
  go_wp2_with (with_reducible refine wpList_load_row (o := ⟨some 5, _, _, _, _, _⟩) rfl 74 (.global 0) rfl 0 rfl t lsV fr _ HG.out Tryz.underlying74 rfl (by kernel_rfl) ?_)
  go_loop [6] (fun v => ∃ k : Nat, v = .int .i64 k ∧ k ≤ 13 ∧ Hid (k = 0 ∨ lsL.getD (k - 1) 0 < op)) (fun v => (13 - intOf v).toNat)
  case atStart => exact ⟨0, rfl, by omega, (show _ ∨ _ from .inl rfl)⟩
  case round =>
    obtain ⟨k, rfl, hk, HK⟩ := hrel
    by_cases hlt : k < 13
    · have hltI : (k : Int) < 13 := by omega
      have ix := lsV_at hlt
      have HS := Lib.hid (fun a b => ls_sort hlt (op := op) a b)
      have HR := Lib.hid (ls_range hlt)
      have HX : Hid (∀ z, lsL.getD k 0 = z → lsL.getD (k + 1 - 1) 0 = z) := fun z h => by rw [Nat.add_sub_cancel]; exact h
      generalize lsL.getD k 0 = z at *
      by_cases hz : op ≤ z
      · have HV := Lib.hid (HS.out HK.out hz)
        go_wp2
        go_ret
        exact ⟨za1 HV.out.symm, rfl⟩
      · go_wp2
        go_round
        case rel => exact ⟨k + 1, by go_num, by omega, (show _ ∨ _ from .inr (by rw [HX.out _ rfl]; omega))⟩
        case measure => simp [intOf]; omega
    · obtain rfl : k = 13 := by omega
      have HV : Hid (srt op = 0) := ls_end (by have := HK.out; simpa using this)
      go_wp2
      go_ret
      exact ⟨za1 HV.out.symm, rfl⟩
end Go.Proofs.YtmamblgpekafbaaGreatDoor
namespace Go.Proofs.YtmamblgpekafbaaGreatDoor
open Go.RowKit
theorem zr2 {k : Int} (h : 0 ≤ k ∧ k ≤ 12) : k = 0 ∨ k = 1 ∨ k = 2 ∨ k = 3 ∨ k = 4 ∨ k = 5 ∨ k = 6 ∨ k = 7 ∨ k = 8 ∨ k = 9 ∨ k = 10 ∨ k = 11 ∨ k = 12 := by omega
theorem zj9 (op : Int) : 0 ≤ srt op ∧ srt op ≤ 12 := by have := zd0 op; omega
theorem zR5 : ∀ k : Fin 75, (srt ((k.val : Int) + 1) ≠ 12 → ((k.val : Int) + 1 ≠ 11 ∧ (k.val : Int) + 1 ≠ 15 ∧ (k.val : Int) + 1 ≠ 18 ∧ (k.val : Int) + 1 ≠ 12 ∧ (k.val : Int) + 1 ≠ 16 ∧ (k.val : Int) + 1 ≠ 19 ∧ (k.val : Int) + 1 ≠ 13 ∧ (k.val : Int) + 1 ≠ 17 ∧ (k.val : Int) + 1 ≠ 20 ∧ (k.val : Int) + 1 ≠ 54 ∧ (k.val : Int) + 1 ≠ 56 ∧ (k.val : Int) + 1 ≠ 14 ∧ (k.val : Int) + 1 ≠ 21 ∧ (k.val : Int) + 1 ≠ 55 ∧ (k.val : Int) + 1 ≠ 57) → szL.getD k.val 0 = 0) ∧ (srt ((k.val : Int) + 1) = 12 → szL.getD k.val 0 = if (k.val : Int) + 1 < 67 then 4 else 8) := by decide
theorem siz_none {op : Int} (h : srt op ≠ 12) (hn : op ≠ 11 ∧ op ≠ 15 ∧ op ≠ 18 ∧ op ≠ 12 ∧ op ≠ 16 ∧ op ≠ 19 ∧ op ≠ 13 ∧ op ≠ 17 ∧ op ≠ 20 ∧ op ≠ 54 ∧ op ≠ 56 ∧ op ≠ 14 ∧ op ≠ 21 ∧ op ≠ 55 ∧ op ≠ 57) : siz op = 0 := by
  unfold siz
  split
  · rename_i hr
    have := (zR5 ⟨op.toNat - 1, by omega⟩).1
    simp only [show ((op.toNat - 1 : Nat) : Int) + 1 = op by omega] at this
    exact this h (by omega)
  · rfl
theorem zT3 {op : Int} (h : srt op = 12) : siz op = if op < 67 then 4 else 8 := by
  have hs := zd0 op
  have hr : 1 ≤ op ∧ op ≤ 75 := by omega
  unfold siz
  rw [if_pos hr]
  have := (zR5 ⟨op.toNat - 1, by omega⟩).2
  simp only [show ((op.toNat - 1 : Nat) : Int) + 1 = op by omega] at this
  exact this h
set_option maxRecDepth 100000 in
theorem zm5 (op : Int) (ho : I64 op) (w : World) (hT : TabL w) :
    Calls Tryz.prog 31 #[.int .i64 op] w fun e w' => e = .returned (.int .i64 (siz op)) ∧ w = w' := by
  have hc : (op = 11 ∨ op = 15 ∨ op = 18 ∨ op = 12 ∨ op = 16 ∨ op = 19 ∨ op = 13 ∨ op = 17 ∨ op = 20 ∨ op = 54 ∨ op = 56 ∨ op = 14 ∨ op = 21 ∨ op = 55 ∨ op = 57) ∨ (op ≠ 11 ∧ op ≠ 15 ∧ op ≠ 18 ∧ op ≠ 12 ∧ op ≠ 16 ∧ op ≠ 19 ∧ op ≠ 13 ∧ op ≠ 17 ∧ op ≠ 20 ∧ op ≠ 54 ∧ op ≠ 56 ∧ op ≠ 14 ∧ op ≠ 21 ∧ op ≠ 55 ∧ op ≠ 57) := by omega
  rcases hc with hc | hn
  · rcases hc with rfl | rfl | rfl | rfl | rfl | rfl | rfl | rfl | rfl | rfl | rfl | rfl | rfl | rfl | rfl
    all_goals
      clear hT
      go_enter Tryz.func31, Tryz.ntmps31
      go_wp2_with fail
      go_ret
      exact ⟨za1 (by decide), rfl⟩
  · have HN := Lib.hid hn
    obtain ⟨n11, n15, n18, n12, n16, n19, n13, n17, n20, n54, n56, n14, n21, n55, n57⟩ := hn
    have b11 : (op == 11) = false := by simpa using n11
    have b15 : (op == 15) = false := by simpa using n15
    have b18 : (op == 18) = false := by simpa using n18
    have b12 : (op == 12) = false := by simpa using n12
    have b16 : (op == 16) = false := by simpa using n16
    have b19 : (op == 19) = false := by simpa using n19
    have b13 : (op == 13) = false := by simpa using n13
    have b17 : (op == 17) = false := by simpa using n17
    have b20 : (op == 20) = false := by simpa using n20
    have b54 : (op == 54) = false := by simpa using n54
    have b56 : (op == 56) = false := by simpa using n56
    have b14 : (op == 14) = false := by simpa using n14
    have b21 : (op == 21) = false := by simpa using n21
    have b55 : (op == 55) = false := by simpa using n55
    have b57 : (op == 57) = false := by simpa using n57
    have HS := zh2 op ho w hT
    clear hT n11 n15 n18 n12 n16 n19 n13 n17 n20 n54 n56 n14 n21 n55 n57
    by_cases h12 : srt op = 12
    · rw [h12] at HS
      have HV := Lib.hid (zT3 h12)
      clear h12
      by_cases h67 : op < 67
      · go_enter Tryz.func31, Tryz.ntmps31
        go_wp2_with (go_at_call 15; refine HS.mono ?_; rintro e w' ⟨rfl, rfl⟩)
        go_ret
        exact ⟨za1 (by rw [HV.out, if_pos h67]), rfl⟩
      · go_enter Tryz.func31, Tryz.ntmps31
        go_wp2_with (go_at_call 15; refine HS.mono ?_; rintro e w' ⟨rfl, rfl⟩)
        go_ret
        exact ⟨za1 (by rw [HV.out, if_neg (by omega)]), rfl⟩
    · have HV := Lib.hid (siz_none h12 HN.out)
      have hb : (srt op != 12) = true := by simpa using h12
      generalize srt op = k at *
      clear h12
      go_enter Tryz.func31, Tryz.ntmps31
      go_wp2_with (go_at_call 15; refine HS.mono ?_; rintro e w' ⟨rfl, rfl⟩)
      go_ret
      exact ⟨za1 HV.out.symm, rfl⟩
theorem lds_c (op : Int) (ho : I64 op) (w : World) (hT : TabL w) :
    Calls Tryz.prog 32 #[.int .i64 op] w fun e w' => e = .returned (.bool (ldsB op)) ∧ w = w' := by
  have HS := zh2 op ho w hT
  have HV : Hid (ldsB op = ldsB op) := rfl
  have hk := zj9 op
  have e0 : ldsB op = ldsB op := rfl
  unfold ldsB at e0 ⊢
  clear hT HV e0
  generalize srt op = k at *
  rcases zr2 hk with rfl | rfl | rfl | rfl | rfl | rfl | rfl | rfl | rfl | rfl | rfl | rfl | rfl
  all_goals
    go_enter Tryz.func32, Tryz.ntmps32
    go_wp2_with (go_at_call 15; refine HS.mono ?_; rintro e w' ⟨rfl, rfl⟩)
    go_ret
    exact ⟨zb0 (by decide), rfl⟩
theorem sts_c (op : Int) (ho : I64 op) (w : World) (hT : TabL w) :
    Calls Tryz.prog 34 #[.int .i64 op] w fun e w' => e = .returned (.bool (stsB op)) ∧ w = w' := by
  have HS := zh2 op ho w hT
  have HV : Hid (stsB op = stsB op) := rfl
  have hk := zj9 op
  have e0 : stsB op = stsB op := rfl
  unfold stsB at e0 ⊢
  clear hT HV e0
  generalize srt op = k at *
  rcases zr2 hk with rfl | rfl | rfl | rfl | rfl | rfl | rfl | rfl | rfl | rfl | rfl | rfl | rfl
  all_goals
    go_enter Tryz.func34, Tryz.ntmps34
    go_wp2_with (go_at_call 15; refine HS.mono ?_; rintro e w' ⟨rfl, rfl⟩)
    go_ret
    exact ⟨zb0 (by decide), rfl⟩
theorem second_c (op : Int) (ho : I64 op) (w : World) (hT : TabL w) :
    Calls Tryz.prog 176 #[.int .i64 op] w fun e w' => e = .returned (.bool (secB op)) ∧ w = w' := by
  have HS := zh2 op ho w hT
  have HV : Hid (secB op = secB op) := rfl
  have hk := zj9 op
  have e0 : secB op = secB op := rfl
  unfold secB at e0 ⊢
  clear hT HV e0
  generalize srt op = k at *
  rcases zr2 hk with rfl | rfl | rfl | rfl | rfl | rfl | rfl | rfl | rfl | rfl | rfl | rfl | rfl
  all_goals
    go_enter Tryz.func176, Tryz.ntmps176
    go_wp2_with (go_at_call 15; refine HS.mono ?_; rintro e w' ⟨rfl, rfl⟩)
    go_ret
    exact ⟨zb0 (by decide), rfl⟩
theorem writes_c (op : Int) (ho : I64 op) (w : World) (hT : TabL w) :
    Calls Tryz.prog 59 #[.int .i64 op] w fun e w' => e = .returned (.bool (wrB op)) ∧ w = w' := by
  have HS := zh2 op ho w hT
  have HV : Hid (wrB op = wrB op) := rfl
  have hk := zj9 op
  have e0 : wrB op = wrB op := rfl
  unfold wrB at e0 ⊢
  clear hT HV e0
  generalize srt op = k at *
  rcases zr2 hk with rfl | rfl | rfl | rfl | rfl | rfl | rfl | rfl | rfl | rfl | rfl | rfl | rfl
  all_goals
    go_enter Tryz.func59, Tryz.ntmps59
    go_wp2_with (go_at_call 15; refine HS.mono ?_; rintro e w' ⟨rfl, rfl⟩)
    go_ret
    exact ⟨zb0 (by decide), rfl⟩
theorem first_c (op : Int) (ho : I64 op) (w : World) (hT : TabL w) :
    Calls Tryz.prog 175 #[.int .i64 op] w fun e w' => e = .returned (.bool (firB op)) ∧ w = w' := by
  have HS := zh2 op ho w hT
  have HV : Hid (firB op = firB op) := rfl
  have hk := zj9 op
  have e0 : firB op = firB op := rfl
  unfold firB at e0 ⊢
  clear hT HV e0
  generalize srt op = k at *
  rcases zr2 hk with rfl | rfl | rfl | rfl | rfl | rfl | rfl | rfl | rfl | rfl | rfl | rfl | rfl
  all_goals
    go_enter Tryz.func175, Tryz.ntmps175
    go_wp2_with (go_at_call 15; refine HS.mono ?_; rintro e w' ⟨rfl, rfl⟩)
    go_ret
    exact ⟨zb0 (by first | rfl | (rw [Bool.eq_iff_iff]; simp)), rfl⟩
theorem zt8 (r : Int) (w : World) :
    Calls Tryz.prog 60 #[.int .i64 r] w fun e w' => e = .returned (.int .i64 (regV r)) ∧ w = w' := by
  have hc : r < 0 ∨ 31 < r ∨ (0 ≤ r ∧ r ≤ 31) := by omega
  have HV : Hid ((0 ≤ r ∧ r ≤ 31 → regV r = r) ∧ (¬ (0 ≤ r ∧ r ≤ 31) → regV r = 0)) := ⟨fun h => if_pos h, fun h => if_neg h⟩
  rcases hc with h | h | ⟨h, h2⟩
  · go_enter Tryz.func60, Tryz.ntmps60
    go_wp2
    go_ret
    exact ⟨za1 (HV.out.2 (by omega)).symm, rfl⟩
  · go_enter Tryz.func60, Tryz.ntmps60
    go_wp2
    all_goals go_ret
    all_goals exact ⟨za1 (HV.out.2 (by omega)).symm, rfl⟩
  · go_enter Tryz.func60, Tryz.ntmps60
    go_wp2
    go_ret
    exact ⟨za1 (HV.out.1 (by omega)).symm, rfl⟩
theorem n0_at {k : Nat} (h : k < 76) : n0V[k]? = some (tx (n0L.getD k [])) := by
  unfold n0V
  rw [List.getElem?_toArray, List.getElem?_map, List.getD_eq_getElem?_getD, List.getElem?_eq_getElem (by simpa [n0L, zt3] using h)]
  rfl
theorem n0V_ix {k : Nat} (h : k < 76) (w : World) : (Instr.index 188 (.agg n0V) (.int .i64 k)).run Tryz.prog w = .ok (tx (n0L.getD k [])) w :=
  zq6 Tryz.underlying188 Tryz.underlying9 rfl (by kernel_rfl) h (n0_at h) w
theorem bynm_n0 {k : Nat} (h : k < 76) {l : List UInt8} (e : n0L.getD k [] = l) : bynm l = (k : Int) := by
  subst e
  cases k with
  | zero => rfl
  | succ k => exact bynm_at (by omega)
theorem Zf9 {l : List UInt8} (h : ∀ k, k < 76 → n0L.getD k [] ≠ l) : bynm l = 0 := by
  unfold bynm
  rw [if_neg]
  intro hm
  obtain ⟨i, hi, he⟩ := List.getElem_of_mem hm
  refine h (i + 1) (by rw [zt3] at hi; omega) ?_
  show nmL.getD i [] = l
  rw [List.getD_eq_getElem?_getD, List.getElem?_eq_getElem hi]
  exact he
def NoneTo (q : ByteArray) (k : Nat) : Prop := ∀ i, i < k → n0L.getD i [] ≠ q.toList
set_option maxRecDepth 100000 in
theorem byname_c (q : ByteArray) (w : World) (hT : TabN w) :
    Calls Tryz.prog 189 #[.string q] w fun e w' => e = .returned (.int .i64 (bynm q.toList)) ∧ w = w' := by
  obtain ⟨t, fr, hg⟩ := hT
  have HG := Lib.hid hg
  clear hg
  go_enter Tryz.func189, Tryz.ntmps189
  go_wp2_with (with_reducible refine wpList_load_row (o := ⟨some 5, _, _, _, _, _⟩) rfl 188 (.global 8) rfl 8 rfl t n0V fr _ HG.out Tryz.underlying188 rfl (by kernel_rfl) ?_)
  go_loop [6] (fun v => ∃ k : Nat, v = .int .i64 k ∧ k ≤ 76 ∧ NoneTo q k) (fun v => (76 - intOf v).toNat)
  case atStart => exact ⟨0, rfl, by omega, fun i hi => absurd hi (by omega)⟩
  case round =>
    obtain ⟨k, rfl, hk, HK⟩ := hrel
    by_cases hlt : k < 76
    · have hltI : (k : Int) < 76 := by omega
      have ix := n0V_ix hlt
      unfold tx at ix
      obtain ⟨r, hr⟩ : ∃ r, bs (n0L.getD k []) = r := ⟨_, rfl⟩
      rw [hr] at ix
      have HRL : Hid (r.toList = n0L.getD k []) := by show _ = _; rw [← hr]; exact ze3 _
      clear hr
      by_cases he : n0L.getD k [] = q.toList
      · have hy : (r.toList == q.toList) = true := by rw [HRL.out, he]; simp
        have HV := Lib.hid (bynm_n0 hlt he)
        clear he
        go_wp2
        go_ret
        exact ⟨za1 HV.out.symm, rfl⟩
      · have hy : (r.toList == q.toList) = false := by rw [HRL.out]; simpa using he
        have HV := Lib.hid he
        clear he
        go_wp2
        go_round
        case rel => exact ⟨k + 1, by go_num, by omega, fun i hi => by rcases Nat.lt_succ_iff_lt_or_eq.1 hi with h | rfl; exact HK i h; exact HV.out⟩
        case measure => simp [intOf]; omega
    · obtain rfl : k = 76 := by omega
      have HV := Lib.hid (Zf9 (l := q.toList) HK)
      go_wp2
      go_ret
      exact ⟨za1 HV.out.symm, rfl⟩
end Go.Proofs.YtmamblgpekafbaaGreatDoor
