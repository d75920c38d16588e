/- Whether a word is an operation's: the document's Is, by kinds of operations. -/
import Derived.Test.YtolmecnjolfjgaaGreatDoorRows
import Derived.Test.YtolmecnjolfjgaaGreatDoorSyl
import Derived.Test.YtolmecnjolfjgaaGreatDoorOcl
import Derived.WalkKit
import Derived.WalkLawsBesides
import Derived.Deep.QuietTactic
import Derived.BigQuiet
import Derived.WalkSmall
import Derived.WalkSpells
import Derived.Lib.Hide
import Derived.Below
set_option maxRecDepth 100000
namespace Go.Proofs.YtolmecnjolfjgaaGreatDoor
open Go.RowKit

def IsAt (op : Int) : Prop := ∀ (v : Int) (w : World), 0 ≤ v → v < 4294967296 → Calls Tryz.prog 66 #[.int .u32 v, .int .i64 op] w fun e w' => e = .returned (.bool (iswB v op)) ∧ BW w w'
theorem isw_of {v op : Int} {c : Bool} (h : c = true ↔ Isw v op) : c = iswB v op := by unfold iswB; rw [Bool.eq_iff_iff, h, decide_eq_true_eq]
theorem em_ne (x y : Int) : (Hid (x = y) ∧ (x != y) = false) ∨ (Hid (x ≠ y) ∧ (x != y) = true) := by
  by_cases h : x = y
  · exact .inl ⟨h, by simp [h]⟩
  · exact .inr ⟨h, by simp [h]⟩
theorem em_eq (x y : Int) : (Hid (x = y) ∧ (x == y) = true) ∨ (Hid (x ≠ y) ∧ (x == y) = false) := by
  by_cases h : x = y
  · exact .inl ⟨h, by simp [h]⟩
  · exact .inr ⟨h, by simp [h]⟩
/-- What holds of a kind. -/
def Kf (op : Int) : Prop :=
  (kdV op = 0 ∧ srt op = 1) ∨ (kdV op = 0 ∧ op = 3 ∧ srt op = 2) ∨ (kdV op = 1 ∧ 1 < srt op ∧ srt op < 7 ∧ op ≠ 3 ∧ shV op = 0) ∨
  (kdV op = 2 ∧ srt op = 7 ∧ op ≠ 3 ∧ ((turB op = true ∧ agV op = 32) ∨ (turB op = false ∧ agV op = 0))) ∨ (kdV op = 2 ∧ srt op = 6 ∧ op ≠ 3 ∧ shV op = 5 ∧ ((turB op = true ∧ agV op = 32) ∨ (turB op = false ∧ agV op = 0))) ∨
  (kdV op = 3 ∧ srt op = 6 ∧ op ≠ 3 ∧ shV op = 6 ∧ ((turB op = true ∧ agV op = 16) ∨ (turB op = false ∧ agV op = 0))) ∨ (kdV op = 4 ∧ srt op = 10 ∧ op ≠ 3 ∧ shV op = 0 ∧ 54 ≤ op) ∨ (kdV op = 5 ∧ 10 < srt op ∧ op ≠ 3 ∧ shV op = 0 ∧ 54 ≤ op) ∨
  (op = 50) ∨ (op = 51) ∨ (op = 52) ∨ (op = 53)
instance (op : Int) : Decidable (Kf op) := by unfold Kf; infer_instance
theorem kf_all : ∀ k : Fin 75, Kf ((k.val : Int) + 1) := by decide
section
variable (op : Int) (h : 1 ≤ op ∧ op ≤ 75) (w : World)
include h
theorem i_s : ∀ w1, BW w w1 → Calls Tryz.prog 46 #[.int .i64 op] w1 fun e w' => e = .returned (.int .i64 (srt op)) ∧ BW w w' := fun w1 hb => sort_bw w w1 hb op (by omega) (by omega)
theorem i_o : ∀ w1, BW w w1 → Calls Tryz.prog 73 #[.int .i64 op] w1 fun e w' => e = .returned (.int .u32 (ocV op)) ∧ BW w w' := fun w1 hb => (oc_any op h w1).mono fun _ _ ⟨he, hc⟩ => ⟨he, hb.on hc⟩
theorem i_f : ∀ w1, BW w w1 → Calls Tryz.prog 74 #[.int .i64 op] w1 fun e w' => e = .returned (.int .u32 (f3V op)) ∧ BW w w' := fun w1 hb => (fc_any op h w1).mono fun _ _ ⟨he, hc⟩ => ⟨he, hb.on hc⟩
theorem i_t : ∀ w1, BW w w1 → Calls Tryz.prog 75 #[.int .i64 op] w1 fun e w' => e = .returned (.bool (turB op)) ∧ BW w w' := fun w1 hb => (tu_any op h w1).mono fun _ _ ⟨he, hc⟩ => ⟨he, hb.on hc⟩
theorem i_h : ∀ w1, BW w w1 → Calls Tryz.prog 72 #[.int .i64 op] w1 fun e w' => e = .returned (.int .i64 (shV op)) ∧ BW w w' := fun w1 hb => (sh_any op h w1).mono fun _ _ ⟨he, hc⟩ => ⟨he, hb.on hc⟩
omit h in
theorem i_v (h : 54 ≤ op ∧ op ≤ 75) : ∀ w1, BW w w1 → Calls Tryz.prog 77 #[.int .i64 op] w1 fun e w' => e = .returned (.int .u32 (agV op)) ∧ BW w w' := fun w1 hb => (fv_any op h w1).mono fun _ _ ⟨he, hc⟩ => ⟨he, hb.on hc⟩
end
theorem is_0a (op : Int) (h : 1 ≤ op ∧ op ≤ 75) (hk : kdV op = 0) (hs : srt op = 1) : IsAt op := by
  intro v w v0 v1
  have HB : BW w w := Below.refl _ _
  have HS := i_s op h w
  have HO := i_o op h w
  have HF := i_f op h w
  have HT := i_t op h w
  have HH := i_h op h w
  have HI : Hid (Isw v op ↔ v % 128 = ocV op) := by
    show _ ↔ _
    unfold Isw
    rw [hk]
    simp
  rw [hs] at HS
  generalize ocV op = oc at *
  clear hk h hs HF HT HH
  rcases em_ne (v % 128) oc with ⟨H0, b0⟩ | ⟨H0, b0⟩
  all_goals
    go_enter Tryz.func66, Tryz.ntmps66
    go_wp2_with (first
      | (go_at_call 46; refine (HS _ (by assumption)).mono ?_; rintro e w' ⟨rfl, hb⟩)
      | (go_at_call 73; refine (HO _ (by assumption)).mono ?_; rintro e w' ⟨rfl, hb⟩)
      | (go_at_call 74; refine (HF _ (by assumption)).mono ?_; rintro e w' ⟨rfl, hb⟩)
      | (go_at_call 75; refine (HT _ (by assumption)).mono ?_; rintro e w' ⟨rfl, hb⟩)
      | (go_at_call 72; refine (HH _ (by assumption)).mono ?_; rintro e w' ⟨rfl, hb⟩))
    go_ret
    refine ⟨ret_bool (isw_of ?_), by assumption⟩
    rw [HI.out]
    have h0 := H0.out
    simp
    try omega
theorem is_0b (op : Int) (h : 1 ≤ op ∧ op ≤ 75) (hk : kdV op = 0) (hn : op = 3) (hs : srt op = 2) : IsAt op := by
  intro v w v0 v1
  have HB : BW w w := Below.refl _ _
  have HS := i_s op h w
  have HO := i_o op h w
  have HF := i_f op h w
  have HT := i_t op h w
  have HH := i_h op h w
  have HI : Hid (Isw v op ↔ v % 128 = ocV op) := by
    show _ ↔ _
    unfold Isw
    rw [hk]
    simp
  rw [hs] at HS
  subst hn
  generalize ocV 3 = oc at *
  clear hk h hs HF HT HH
  rcases em_ne (v % 128) oc with ⟨H0, b0⟩ | ⟨H0, b0⟩
  all_goals
    go_enter Tryz.func66, Tryz.ntmps66
    go_wp2_with (first
      | (go_at_call 46; refine (HS _ (by assumption)).mono ?_; rintro e w' ⟨rfl, hb⟩)
      | (go_at_call 73; refine (HO _ (by assumption)).mono ?_; rintro e w' ⟨rfl, hb⟩)
      | (go_at_call 74; refine (HF _ (by assumption)).mono ?_; rintro e w' ⟨rfl, hb⟩)
      | (go_at_call 75; refine (HT _ (by assumption)).mono ?_; rintro e w' ⟨rfl, hb⟩)
      | (go_at_call 72; refine (HH _ (by assumption)).mono ?_; rintro e w' ⟨rfl, hb⟩))
    go_ret
    refine ⟨ret_bool (isw_of ?_), by assumption⟩
    rw [HI.out]
    have h0 := H0.out
    simp
    try omega
theorem is_1 (op : Int) (h : 1 ≤ op ∧ op ≤ 75) (hk : kdV op = 1) (hs : 1 < srt op) (hs2 : srt op < 7) (hn : op ≠ 3) (hz : shV op = 0) : IsAt op := by
  intro v w v0 v1
  have HB : BW w w := Below.refl _ _
  have HS := i_s op h w
  have HO := i_o op h w
  have HF := i_f op h w
  have HT := i_t op h w
  have HH := i_h op h w
  have HI : Hid (Isw v op ↔ v % 128 = ocV op ∧ v / 4096 % 8 = f3V op) := by
    show _ ↔ _
    unfold Isw
    rw [hk]
    simp
  rw [hz] at HH
  have c3 : (op == 3) = false := by simpa using hn
  generalize ocV op = oc at *
  generalize f3V op = f3 at *
  generalize srt op = s at *
  have c1 : (s == 1) = false := by simp; omega
  have c9 : (s == 9) = false := by simp; omega
  have c8 : (s == 8) = false := by simp; omega
  have c7 : (s == 7) = false := by simp; omega
  have c10 : (s == 10) = false := by simp; omega
  clear hk h hz hn
  generalize turB op = tb at *
  cases tb <;>
  rcases em_ne (v % 128) oc with ⟨H0, b0⟩ | ⟨H0, b0⟩ <;>
  rcases em_ne (v / 4096 % 8) f3 with ⟨H1, b1⟩ | ⟨H1, b1⟩
  all_goals
    go_enter Tryz.func66, Tryz.ntmps66
    go_wp2_with (first
      | (go_at_call 46; refine (HS _ (by assumption)).mono ?_; rintro e w' ⟨rfl, hb⟩)
      | (go_at_call 73; refine (HO _ (by assumption)).mono ?_; rintro e w' ⟨rfl, hb⟩)
      | (go_at_call 74; refine (HF _ (by assumption)).mono ?_; rintro e w' ⟨rfl, hb⟩)
      | (go_at_call 75; refine (HT _ (by assumption)).mono ?_; rintro e w' ⟨rfl, hb⟩)
      | (go_at_call 72; refine (HH _ (by assumption)).mono ?_; rintro e w' ⟨rfl, hb⟩))
    go_ret
    refine ⟨ret_bool (isw_of ?_), by assumption⟩
    rw [HI.out]
    have h0 := H0.out
    have h1 := H1.out
    simp
    try omega
theorem is_2at (op : Int) (h : 1 ≤ op ∧ op ≤ 75) (hk : kdV op = 2) (hs : srt op = 7) (hn : op ≠ 3) (ht : turB op = true) (ha : agV op = 32) : IsAt op := by
  intro v w v0 v1
  have HB : BW w w := Below.refl _ _
  have HS := i_s op h w
  have HO := i_o op h w
  have HF := i_f op h w
  have HT := i_t op h w
  have HH := i_h op h w
  have HI : Hid (Isw v op ↔ v % 128 = ocV op ∧ v / 4096 % 8 = f3V op ∧ v / 33554432 = agV op) := by
    show _ ↔ _
    unfold Isw
    rw [hk]
    simp
  rw [hs] at HS
  rw [ht] at HT
  clear HH
  rw [ha] at HI
  have c3 : (op == 3) = false := by simpa using hn
  generalize ocV op = oc at *
  generalize f3V op = f3 at *
  clear hk h hn hs ht ha
  rcases em_ne (v % 128) oc with ⟨H0, b0⟩ | ⟨H0, b0⟩ <;>
  rcases em_ne (v / 4096 % 8) f3 with ⟨H1, b1⟩ | ⟨H1, b1⟩
  all_goals
    go_enter Tryz.func66, Tryz.ntmps66
    go_wp2_with (first
      | (go_at_call 46; refine (HS _ (by assumption)).mono ?_; rintro e w' ⟨rfl, hb⟩)
      | (go_at_call 73; refine (HO _ (by assumption)).mono ?_; rintro e w' ⟨rfl, hb⟩)
      | (go_at_call 74; refine (HF _ (by assumption)).mono ?_; rintro e w' ⟨rfl, hb⟩)
      | (go_at_call 75; refine (HT _ (by assumption)).mono ?_; rintro e w' ⟨rfl, hb⟩)
      | (go_at_call 72; refine (HH _ (by assumption)).mono ?_; rintro e w' ⟨rfl, hb⟩))
    go_ret
    refine ⟨ret_bool (isw_of ?_), by assumption⟩
    rw [HI.out]
    have h0 := H0.out
    have h1 := H1.out
    simp
    try omega
theorem is_2bt (op : Int) (h : 1 ≤ op ∧ op ≤ 75) (hk : kdV op = 2) (hs : srt op = 6) (hn : op ≠ 3) (hz : shV op = 5) (ht : turB op = true) (ha : agV op = 32) : IsAt op := by
  intro v w v0 v1
  have HB : BW w w := Below.refl _ _
  have HS := i_s op h w
  have HO := i_o op h w
  have HF := i_f op h w
  have HT := i_t op h w
  have HH := i_h op h w
  have HI : Hid (Isw v op ↔ v % 128 = ocV op ∧ v / 4096 % 8 = f3V op ∧ v / 33554432 = agV op) := by
    show _ ↔ _
    unfold Isw
    rw [hk]
    simp
  rw [hs] at HS
  rw [ht] at HT
  rw [hz] at HH
  rw [ha] at HI
  have c3 : (op == 3) = false := by simpa using hn
  generalize ocV op = oc at *
  generalize f3V op = f3 at *
  clear hk h hn hs ht ha hz
  rcases em_ne (v % 128) oc with ⟨H0, b0⟩ | ⟨H0, b0⟩ <;>
  rcases em_ne (v / 4096 % 8) f3 with ⟨H1, b1⟩ | ⟨H1, b1⟩
  all_goals
    go_enter Tryz.func66, Tryz.ntmps66
    go_wp2_with (first
      | (go_at_call 46; refine (HS _ (by assumption)).mono ?_; rintro e w' ⟨rfl, hb⟩)
      | (go_at_call 73; refine (HO _ (by assumption)).mono ?_; rintro e w' ⟨rfl, hb⟩)
      | (go_at_call 74; refine (HF _ (by assumption)).mono ?_; rintro e w' ⟨rfl, hb⟩)
      | (go_at_call 75; refine (HT _ (by assumption)).mono ?_; rintro e w' ⟨rfl, hb⟩)
      | (go_at_call 72; refine (HH _ (by assumption)).mono ?_; rintro e w' ⟨rfl, hb⟩))
    go_ret
    refine ⟨ret_bool (isw_of ?_), by assumption⟩
    rw [HI.out]
    have h0 := H0.out
    have h1 := H1.out
    simp
    try omega
theorem is_3t (op : Int) (h : 1 ≤ op ∧ op ≤ 75) (hk : kdV op = 3) (hs : srt op = 6) (hn : op ≠ 3) (hz : shV op = 6) (ht : turB op = true) (ha : agV op = 16) : IsAt op := by
  intro v w v0 v1
  have HB : BW w w := Below.refl _ _
  have HS := i_s op h w
  have HO := i_o op h w
  have HF := i_f op h w
  have HT := i_t op h w
  have HH := i_h op h w
  have HI : Hid (Isw v op ↔ v % 128 = ocV op ∧ v / 4096 % 8 = f3V op ∧ v / 33554432 / 2 = agV op) := by
    show _ ↔ _
    unfold Isw
    rw [hk]
    simp
  rw [hs] at HS
  rw [ht] at HT
  rw [hz] at HH
  rw [ha] at HI
  have c3 : (op == 3) = false := by simpa using hn
  generalize ocV op = oc at *
  generalize f3V op = f3 at *
  clear hk h hn hs ht ha hz
  rcases em_ne (v % 128) oc with ⟨H0, b0⟩ | ⟨H0, b0⟩ <;>
  rcases em_ne (v / 4096 % 8) f3 with ⟨H1, b1⟩ | ⟨H1, b1⟩
  all_goals
    go_enter Tryz.func66, Tryz.ntmps66
    go_wp2_with (first
      | (go_at_call 46; refine (HS _ (by assumption)).mono ?_; rintro e w' ⟨rfl, hb⟩)
      | (go_at_call 73; refine (HO _ (by assumption)).mono ?_; rintro e w' ⟨rfl, hb⟩)
      | (go_at_call 74; refine (HF _ (by assumption)).mono ?_; rintro e w' ⟨rfl, hb⟩)
      | (go_at_call 75; refine (HT _ (by assumption)).mono ?_; rintro e w' ⟨rfl, hb⟩)
      | (go_at_call 72; refine (HH _ (by assumption)).mono ?_; rintro e w' ⟨rfl, hb⟩))
    go_ret
    refine ⟨ret_bool (isw_of ?_), by assumption⟩
    rw [HI.out]
    have h0 := H0.out
    have h1 := H1.out
    simp
    try omega
theorem is_2af (op : Int) (h : 1 ≤ op ∧ op ≤ 75) (hk : kdV op = 2) (hs : srt op = 7) (hn : op ≠ 3) (ht : turB op = false) (ha : agV op = 0) : IsAt op := by
  intro v w v0 v1
  have HB : BW w w := Below.refl _ _
  have HS := i_s op h w
  have HO := i_o op h w
  have HF := i_f op h w
  have HT := i_t op h w
  have HH := i_h op h w
  have HI : Hid (Isw v op ↔ v % 128 = ocV op ∧ v / 4096 % 8 = f3V op ∧ v / 33554432 = agV op) := by
    show _ ↔ _
    unfold Isw
    rw [hk]
    simp
  rw [hs] at HS
  rw [ht] at HT
  clear HH
  rw [ha] at HI
  have c3 : (op == 3) = false := by simpa using hn
  generalize ocV op = oc at *
  generalize f3V op = f3 at *
  clear hk h hn hs ht ha
  rcases em_ne (v % 128) oc with ⟨H0, b0⟩ | ⟨H0, b0⟩ <;>
  rcases em_ne (v / 4096 % 8) f3 with ⟨H1, b1⟩ | ⟨H1, b1⟩
  all_goals
    go_enter Tryz.func66, Tryz.ntmps66
    go_wp2_with (first
      | (go_at_call 46; refine (HS _ (by assumption)).mono ?_; rintro e w' ⟨rfl, hb⟩)
      | (go_at_call 73; refine (HO _ (by assumption)).mono ?_; rintro e w' ⟨rfl, hb⟩)
      | (go_at_call 74; refine (HF _ (by assumption)).mono ?_; rintro e w' ⟨rfl, hb⟩)
      | (go_at_call 75; refine (HT _ (by assumption)).mono ?_; rintro e w' ⟨rfl, hb⟩)
      | (go_at_call 72; refine (HH _ (by assumption)).mono ?_; rintro e w' ⟨rfl, hb⟩))
    go_ret
    refine ⟨ret_bool (isw_of ?_), by assumption⟩
    rw [HI.out]
    have h0 := H0.out
    have h1 := H1.out
    simp
    try omega
theorem is_2bf (op : Int) (h : 1 ≤ op ∧ op ≤ 75) (hk : kdV op = 2) (hs : srt op = 6) (hn : op ≠ 3) (hz : shV op = 5) (ht : turB op = false) (ha : agV op = 0) : IsAt op := by
  intro v w v0 v1
  have HB : BW w w := Below.refl _ _
  have HS := i_s op h w
  have HO := i_o op h w
  have HF := i_f op h w
  have HT := i_t op h w
  have HH := i_h op h w
  have HI : Hid (Isw v op ↔ v % 128 = ocV op ∧ v / 4096 % 8 = f3V op ∧ v / 33554432 = agV op) := by
    show _ ↔ _
    unfold Isw
    rw [hk]
    simp
  rw [hs] at HS
  rw [ht] at HT
  rw [hz] at HH
  rw [ha] at HI
  have c3 : (op == 3) = false := by simpa using hn
  generalize ocV op = oc at *
  generalize f3V op = f3 at *
  clear hk h hn hs ht ha hz
  rcases em_ne (v % 128) oc with ⟨H0, b0⟩ | ⟨H0, b0⟩ <;>
  rcases em_ne (v / 4096 % 8) f3 with ⟨H1, b1⟩ | ⟨H1, b1⟩
  all_goals
    go_enter Tryz.func66, Tryz.ntmps66
    go_wp2_with (first
      | (go_at_call 46; refine (HS _ (by assumption)).mono ?_; rintro e w' ⟨rfl, hb⟩)
      | (go_at_call 73; refine (HO _ (by assumption)).mono ?_; rintro e w' ⟨rfl, hb⟩)
      | (go_at_call 74; refine (HF _ (by assumption)).mono ?_; rintro e w' ⟨rfl, hb⟩)
      | (go_at_call 75; refine (HT _ (by assumption)).mono ?_; rintro e w' ⟨rfl, hb⟩)
      | (go_at_call 72; refine (HH _ (by assumption)).mono ?_; rintro e w' ⟨rfl, hb⟩))
    go_ret
    refine ⟨ret_bool (isw_of ?_), by assumption⟩
    rw [HI.out]
    have h0 := H0.out
    have h1 := H1.out
    simp
    try omega
theorem is_3f (op : Int) (h : 1 ≤ op ∧ op ≤ 75) (hk : kdV op = 3) (hs : srt op = 6) (hn : op ≠ 3) (hz : shV op = 6) (ht : turB op = false) (ha : agV op = 0) : IsAt op := by
  intro v w v0 v1
  have HB : BW w w := Below.refl _ _
  have HS := i_s op h w
  have HO := i_o op h w
  have HF := i_f op h w
  have HT := i_t op h w
  have HH := i_h op h w
  have HI : Hid (Isw v op ↔ v % 128 = ocV op ∧ v / 4096 % 8 = f3V op ∧ v / 33554432 / 2 = agV op) := by
    show _ ↔ _
    unfold Isw
    rw [hk]
    simp
  rw [hs] at HS
  rw [ht] at HT
  rw [hz] at HH
  rw [ha] at HI
  have c3 : (op == 3) = false := by simpa using hn
  generalize ocV op = oc at *
  generalize f3V op = f3 at *
  clear hk h hn hs ht ha hz
  rcases em_ne (v % 128) oc with ⟨H0, b0⟩ | ⟨H0, b0⟩ <;>
  rcases em_ne (v / 4096 % 8) f3 with ⟨H1, b1⟩ | ⟨H1, b1⟩
  all_goals
    go_enter Tryz.func66, Tryz.ntmps66
    go_wp2_with (first
      | (go_at_call 46; refine (HS _ (by assumption)).mono ?_; rintro e w' ⟨rfl, hb⟩)
      | (go_at_call 73; refine (HO _ (by assumption)).mono ?_; rintro e w' ⟨rfl, hb⟩)
      | (go_at_call 74; refine (HF _ (by assumption)).mono ?_; rintro e w' ⟨rfl, hb⟩)
      | (go_at_call 75; refine (HT _ (by assumption)).mono ?_; rintro e w' ⟨rfl, hb⟩)
      | (go_at_call 72; refine (HH _ (by assumption)).mono ?_; rintro e w' ⟨rfl, hb⟩))
    go_ret
    refine ⟨ret_bool (isw_of ?_), by assumption⟩
    rw [HI.out]
    have h0 := H0.out
    have h1 := H1.out
    simp
    try omega
set_option maxHeartbeats 2000000 in
theorem is_4 (op : Int) (h : 1 ≤ op ∧ op ≤ 75) (hk : kdV op = 4) (hs : srt op = 10) (hn : op ≠ 3) (hz : shV op = 0) : IsAt op := by
  intro v w v0 v1
  have HB : BW w w := Below.refl _ _
  have HS := i_s op h w
  have HO := i_o op h w
  have HF := i_f op h w
  have HT := i_t op h w
  have HH := i_h op h w
  have HI : Hid (Isw v op ↔ v % 128 = ocV op ∧ v / 4096 % 8 = f3V op ∧ v / 134217728 = 2 ∧ v / 1048576 % 32 = 0) := by
    show _ ↔ _
    unfold Isw
    rw [hk]
    simp
  rw [hs] at HS
  rw [hz] at HH
  have c3 : (op == 3) = false := by simpa using hn
  generalize ocV op = oc at *
  generalize f3V op = f3 at *
  clear hk h hn hs hz
  generalize turB op = tb at *
  cases tb <;>
  rcases em_ne (v % 128) oc with ⟨H0, b0⟩ | ⟨H0, b0⟩ <;>
  rcases em_ne (v / 4096 % 8) f3 with ⟨H1, b1⟩ | ⟨H1, b1⟩ <;>
  rcases em_eq (v / 134217728) 2 with ⟨H2, b2⟩ | ⟨H2, b2⟩ <;>
  rcases em_eq (v / 1048576 % 32) 0 with ⟨H3, b3⟩ | ⟨H3, b3⟩
  all_goals
    go_enter Tryz.func66, Tryz.ntmps66
    go_wp2_with (first
      | (go_at_call 46; refine (HS _ (by assumption)).mono ?_; rintro e w' ⟨rfl, hb⟩)
      | (go_at_call 73; refine (HO _ (by assumption)).mono ?_; rintro e w' ⟨rfl, hb⟩)
      | (go_at_call 74; refine (HF _ (by assumption)).mono ?_; rintro e w' ⟨rfl, hb⟩)
      | (go_at_call 75; refine (HT _ (by assumption)).mono ?_; rintro e w' ⟨rfl, hb⟩)
      | (go_at_call 72; refine (HH _ (by assumption)).mono ?_; rintro e w' ⟨rfl, hb⟩))
    go_ret
    refine ⟨ret_bool (isw_of ?_), by assumption⟩
    rw [HI.out]
    have h0 := H0.out
    have h1 := H1.out
    have h2 := H2.out
    have h3 := H3.out
    simp
    try omega
set_option maxHeartbeats 2000000 in
theorem is_5 (op : Int) (h : 1 ≤ op ∧ op ≤ 75) (hk : kdV op = 5) (hs : 10 < srt op) (hn : op ≠ 3) (hz : shV op = 0) (h54 : 54 ≤ op) : IsAt op := by
  intro v w v0 v1
  have HB : BW w w := Below.refl _ _
  have HS := i_s op h w
  have HO := i_o op h w
  have HF := i_f op h w
  have HT := i_t op h w
  have HH := i_h op h w
  have HV := i_v op w ⟨h54, h.2⟩
  have HI : Hid (Isw v op ↔ v % 128 = ocV op ∧ v / 4096 % 8 = f3V op ∧ v / 134217728 = agV op) := by
    show _ ↔ _
    unfold Isw
    rw [hk]
    simp
  rw [hz] at HH
  have c3 : (op == 3) = false := by simpa using hn
  generalize ocV op = oc at *
  generalize f3V op = f3 at *
  generalize agV op = ag at *
  generalize srt op = s at *
  have c1 : (s == 1) = false := by simp; omega
  have c9 : (s == 9) = false := by simp; omega
  have c8 : (s == 8) = false := by simp; omega
  have c7 : (s == 7) = false := by simp; omega
  have c10 : (s == 10) = false := by simp; omega
  clear hk h hz hn h54
  generalize turB op = tb at *
  cases tb <;>
  rcases em_ne (v % 128) oc with ⟨H0, b0⟩ | ⟨H0, b0⟩ <;>
  rcases em_ne (v / 4096 % 8) f3 with ⟨H1, b1⟩ | ⟨H1, b1⟩ <;>
  rcases em_eq (v / 134217728) ag with ⟨H2, b2⟩ | ⟨H2, b2⟩
  all_goals
    go_enter Tryz.func66, Tryz.ntmps66
    go_wp2_with (first
      | (go_at_call 46; refine (HS _ (by assumption)).mono ?_; rintro e w' ⟨rfl, hb⟩)
      | (go_at_call 73; refine (HO _ (by assumption)).mono ?_; rintro e w' ⟨rfl, hb⟩)
      | (go_at_call 74; refine (HF _ (by assumption)).mono ?_; rintro e w' ⟨rfl, hb⟩)
      | (go_at_call 75; refine (HT _ (by assumption)).mono ?_; rintro e w' ⟨rfl, hb⟩)
      | (go_at_call 72; refine (HH _ (by assumption)).mono ?_; rintro e w' ⟨rfl, hb⟩)
      | (go_at_call 77; refine (HV _ (by assumption)).mono ?_; rintro e w' ⟨rfl, hb⟩))
    go_ret
    refine ⟨ret_bool (isw_of ?_), by assumption⟩
    rw [HI.out]
    have h0 := H0.out
    have h1 := H1.out
    have h2 := H2.out
    simp
    try omega
set_option maxRecDepth 100000 in
theorem is_50 : IsAt 50 := by
  intro v w v0 v1
  have HB : BW w w := Below.refl _ _
  have HS := i_s 50 (by decide) w
  have HO := i_o 50 (by decide) w
  have HF := i_f 50 (by decide) w
  have HT := i_t 50 (by decide) w
  have HH := i_h 50 (by decide) w
  rw [show srt 50 = 8 by decide] at HS
  rw [show ocV 50 = 15 by decide] at HO
  clear HF HT HH
  have HI : Hid (Isw v 50 ↔ v % 128 = 15 ∧ v / 4096 % 8 = 0 ∧ v / 1048576 ≠ 2099) := by
    show _ ↔ _
    unfold Isw
    rw [show ocV 50 = 15 by decide, show kdV 50 = 6 by decide]
    simp
    try omega
  rcases em_ne (v % 128) 15 with ⟨H0, b0⟩ | ⟨H0, b0⟩ <;>
  rcases em_eq (v / 4096 % 8) 0 with ⟨H1, b1⟩ | ⟨H1, b1⟩ <;>
  rcases em_eq (v / 1048576) 2099 with ⟨H2, b2⟩ | ⟨H2, b2⟩
  all_goals
    go_enter Tryz.func66, Tryz.ntmps66
    go_wp2_with (first
      | (go_at_call 46; refine (HS _ (by assumption)).mono ?_; rintro e w' ⟨rfl, hb⟩)
      | (go_at_call 73; refine (HO _ (by assumption)).mono ?_; rintro e w' ⟨rfl, hb⟩)
      | (go_at_call 74; refine (HF _ (by assumption)).mono ?_; rintro e w' ⟨rfl, hb⟩)
      | (go_at_call 75; refine (HT _ (by assumption)).mono ?_; rintro e w' ⟨rfl, hb⟩)
      | (go_at_call 72; refine (HH _ (by assumption)).mono ?_; rintro e w' ⟨rfl, hb⟩))
    go_ret
    refine ⟨ret_bool (isw_of ?_), by assumption⟩
    rw [HI.out]
    have h0 := H0.out
    have h1 := H1.out
    have h2 := H2.out
    simp
    try omega
set_option maxRecDepth 100000 in
theorem is_51 : IsAt 51 := by
  intro v w v0 v1
  have HB : BW w w := Below.refl _ _
  have HS := i_s 51 (by decide) w
  have HO := i_o 51 (by decide) w
  have HF := i_f 51 (by decide) w
  have HT := i_t 51 (by decide) w
  have HH := i_h 51 (by decide) w
  rw [show srt 51 = 8 by decide] at HS
  rw [show ocV 51 = 15 by decide] at HO
  clear HF HT HH
  have HI : Hid (Isw v 51 ↔ v % 128 = 15 ∧ v / 4096 % 8 = 0 ∧ v / 1048576 = 2099) := by
    show _ ↔ _
    unfold Isw
    rw [show ocV 51 = 15 by decide, show kdV 51 = 7 by decide]
    simp
    try omega
  rcases em_ne (v % 128) 15 with ⟨H0, b0⟩ | ⟨H0, b0⟩ <;>
  rcases em_eq (v / 4096 % 8) 0 with ⟨H1, b1⟩ | ⟨H1, b1⟩ <;>
  rcases em_eq (v / 1048576) 2099 with ⟨H2, b2⟩ | ⟨H2, b2⟩
  all_goals
    go_enter Tryz.func66, Tryz.ntmps66
    go_wp2_with (first
      | (go_at_call 46; refine (HS _ (by assumption)).mono ?_; rintro e w' ⟨rfl, hb⟩)
      | (go_at_call 73; refine (HO _ (by assumption)).mono ?_; rintro e w' ⟨rfl, hb⟩)
      | (go_at_call 74; refine (HF _ (by assumption)).mono ?_; rintro e w' ⟨rfl, hb⟩)
      | (go_at_call 75; refine (HT _ (by assumption)).mono ?_; rintro e w' ⟨rfl, hb⟩)
      | (go_at_call 72; refine (HH _ (by assumption)).mono ?_; rintro e w' ⟨rfl, hb⟩))
    go_ret
    refine ⟨ret_bool (isw_of ?_), by assumption⟩
    rw [HI.out]
    have h0 := H0.out
    have h1 := H1.out
    have h2 := H2.out
    simp
    try omega
set_option maxRecDepth 100000 in
theorem is_52 : IsAt 52 := by
  intro v w v0 v1
  have HB : BW w w := Below.refl _ _
  have HS := i_s 52 (by decide) w
  have HO := i_o 52 (by decide) w
  have HF := i_f 52 (by decide) w
  have HT := i_t 52 (by decide) w
  have HH := i_h 52 (by decide) w
  rw [show srt 52 = 9 by decide] at HS
  rw [show ocV 52 = 115 by decide] at HO
  clear HF HT HH
  have HI : Hid (Isw v 52 ↔ v % 128 = 115 ∧ v = 115) := by
    show _ ↔ _
    unfold Isw
    rw [show ocV 52 = 115 by decide, show kdV 52 = 8 by decide]
    simp
    try omega
  rcases em_ne (v % 128) 115 with ⟨H0, b0⟩ | ⟨H0, b0⟩ <;>
  rcases em_eq (v) 115 with ⟨H1, b1⟩ | ⟨H1, b1⟩ <;>
  rcases em_eq (v) 1048691 with ⟨H2, b2⟩ | ⟨H2, b2⟩
  all_goals
    try (exfalso; have h0 := H0.out; have h1 := H1.out; have h2 := H2.out; omega)
  all_goals
    go_enter Tryz.func66, Tryz.ntmps66
    go_wp2_with (first
      | (go_at_call 46; refine (HS _ (by assumption)).mono ?_; rintro e w' ⟨rfl, hb⟩)
      | (go_at_call 73; refine (HO _ (by assumption)).mono ?_; rintro e w' ⟨rfl, hb⟩)
      | (go_at_call 74; refine (HF _ (by assumption)).mono ?_; rintro e w' ⟨rfl, hb⟩)
      | (go_at_call 75; refine (HT _ (by assumption)).mono ?_; rintro e w' ⟨rfl, hb⟩)
      | (go_at_call 72; refine (HH _ (by assumption)).mono ?_; rintro e w' ⟨rfl, hb⟩))
    go_ret
    refine ⟨ret_bool (isw_of ?_), by assumption⟩
    rw [HI.out]
    have h0 := H0.out
    have h1 := H1.out
    have h2 := H2.out
    simp
    try omega
set_option maxRecDepth 100000 in
theorem is_53 : IsAt 53 := by
  intro v w v0 v1
  have HB : BW w w := Below.refl _ _
  have HS := i_s 53 (by decide) w
  have HO := i_o 53 (by decide) w
  have HF := i_f 53 (by decide) w
  have HT := i_t 53 (by decide) w
  have HH := i_h 53 (by decide) w
  rw [show srt 53 = 9 by decide] at HS
  rw [show ocV 53 = 115 by decide] at HO
  clear HF HT HH
  have HI : Hid (Isw v 53 ↔ v % 128 = 115 ∧ v = 1048691) := by
    show _ ↔ _
    unfold Isw
    rw [show ocV 53 = 115 by decide, show kdV 53 = 9 by decide]
    simp
    try omega
  rcases em_ne (v % 128) 115 with ⟨H0, b0⟩ | ⟨H0, b0⟩ <;>
  rcases em_eq (v) 115 with ⟨H1, b1⟩ | ⟨H1, b1⟩ <;>
  rcases em_eq (v) 1048691 with ⟨H2, b2⟩ | ⟨H2, b2⟩
  all_goals
    try (exfalso; have h0 := H0.out; have h1 := H1.out; have h2 := H2.out; omega)
  all_goals
    go_enter Tryz.func66, Tryz.ntmps66
    go_wp2_with (first
      | (go_at_call 46; refine (HS _ (by assumption)).mono ?_; rintro e w' ⟨rfl, hb⟩)
      | (go_at_call 73; refine (HO _ (by assumption)).mono ?_; rintro e w' ⟨rfl, hb⟩)
      | (go_at_call 74; refine (HF _ (by assumption)).mono ?_; rintro e w' ⟨rfl, hb⟩)
      | (go_at_call 75; refine (HT _ (by assumption)).mono ?_; rintro e w' ⟨rfl, hb⟩)
      | (go_at_call 72; refine (HH _ (by assumption)).mono ?_; rintro e w' ⟨rfl, hb⟩))
    go_ret
    refine ⟨ret_bool (isw_of ?_), by assumption⟩
    rw [HI.out]
    have h0 := H0.out
    have h1 := H1.out
    have h2 := H2.out
    simp
    try omega
theorem is_any (op : Int) (h : 1 ≤ op ∧ op ≤ 75) : IsAt op := by
  have hk := kf_all ⟨op.toNat - 1, by omega⟩
  simp only [show ((op.toNat - 1 : Nat) : Int) + 1 = op by omega] at hk
  rcases hk with ⟨a, b⟩ | ⟨a, b, c⟩ | ⟨a, b, c, d, e⟩ | ⟨a, b, c, ⟨d, e⟩ | ⟨d, e⟩⟩ | ⟨a, b, c, f, ⟨d, e⟩ | ⟨d, e⟩⟩ | ⟨a, b, c, f, ⟨d, e⟩ | ⟨d, e⟩⟩ | ⟨a, b, c, d, _⟩ | ⟨a, b, c, d, e⟩ | rfl | rfl | rfl | rfl
  · exact is_0a op h a b
  · exact is_0b op h a b c
  · exact is_1 op h a b c d e
  · exact is_2at op h a b c d e
  · exact is_2af op h a b c d e
  · exact is_2bt op h a b c f d e
  · exact is_2bf op h a b c f d e
  · exact is_3t op h a b c f d e
  · exact is_3f op h a b c f d e
  · exact is_4 op h a b c d
  · exact is_5 op h a b c d e
  · exact is_50
  · exact is_51
  · exact is_52
  · exact is_53
end Go.Proofs.YtolmecnjolfjgaaGreatDoor
